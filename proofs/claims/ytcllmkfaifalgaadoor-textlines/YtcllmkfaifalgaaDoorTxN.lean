/-
  How long a text's forms are; what comes in. No condition.
-/
import Derived.Test.YtcllmkfaifalgaaDoorTxL
namespace Go.Proofs.YtcllmkfaifalgaaDoor.T
open Go Go.RowKit
set_option linter.unusedVariables false
set_option maxRecDepth 100000

/-- All lines' bytes. -/
def tot : List (List Int) → Nat
  | [] => 0
  | l :: r => l.length + tot r
theorem lns_tot : ∀ (t acc : List Int), tot (lns acc t) + t.count 10 ≤ acc.length + t.length
  | [], acc => by simp [lns, tot]
  | x :: t, acc => by
    rw [lns]; split
    · rename_i h; subst h
      have := strip_length acc
      have := lns_tot t []
      simp [tot] at this ⊢; omega
    · rename_i h
      have := lns_tot t (acc ++ [x])
      simp [h] at this ⊢; omega
theorem jn_tot (s : List Int) : ∀ (p : List (List Int)), (jn s p).length ≤ tot p + (p.length - 1) * s.length
  | [] => by simp [jn]
  | [l] => by simp [jn, tot]
  | l :: m :: r => by
    have h := jn_tot s (m :: r)
    simp only [jn, tot, List.length_append, List.length_cons, Nat.add_sub_cancel] at h ⊢
    have e : (r.length + 1) * s.length = r.length * s.length + s.length := by rw [Nat.add_mul, Nat.one_mul]
    rw [e]; omega
theorem map_tot : ∀ (p : List (List Int)), tot (p.map trim) ≤ tot p
  | [] => Nat.le_refl _
  | l :: r => by
    have := map_tot r
    have := trim_length l
    simp [tot]; omega
theorem canon_length (b : List Int) : (canon b).length ≤ 2 * b.length := by
  have h1 := jn_tot [13, 10] (lines b)
  have h2 := lns_tot b []
  have h3 := lines_count b
  have h4 := List.count_le_length (a := (10 : Int)) (l := b)
  have e : lns [] b = lines b := rfl
  rw [e] at h2
  rw [h3] at h1
  unfold canon
  simp at h1 h2 ⊢; omega
theorem signed_length (b : List Int) : (signed b).length ≤ 2 * b.length := by
  have h1 := jn_tot [13, 10] ((lines b).map trim)
  have h2 := lns_tot b []
  have h3 := lines_count b
  have h4 := List.count_le_length (a := (10 : Int)) (l := b)
  have h5 := map_tot (lines b)
  have e : lns [] b = lines b := rfl
  rw [e] at h2
  rw [List.length_map, h3] at h1
  unfold signed
  simp at h1 h2 ⊢; omega
theorem plain_length (b : List Int) : (plain b).length ≤ b.length := by
  have h1 := jn_tot [10] (lines b)
  have h2 := lns_tot b []
  have h3 := lines_count b
  have e : lns [] b = lines b := rfl
  rw [e] at h2
  rw [h3] at h1
  unfold plain
  simp at h1 h2 ⊢; omega
theorem isrow {w : World} {a : Option Addr} {len cap : Nat} {zs : List Int} (h : IsRow .u8 w a len cap zs) : ∃ xs : List Int, SlV w (.slice a len cap) (U xs) ∧ xs.length = len ∧ Byt xs :=
  ⟨zs.take len, h.sl.1, h.sl.2.1, byt_of_wf h.sl.2.2⟩
end Go.Proofs.YtcllmkfaifalgaaDoor.T
