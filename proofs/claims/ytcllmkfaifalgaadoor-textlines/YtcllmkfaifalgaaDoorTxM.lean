/-
  The mathematics of lines: the lines of a text, what is left of a line trimmed, lines joined with something between. No program.
-/
import Derived.Test.YtcllmkfaifalgaaDoorKit2
namespace Go.Proofs.YtcllmkfaifalgaaDoor.T
open Go Go.RowKit
set_option linter.unusedVariables false

/-- A line without one byte 13 at its end. -/
def strip (l : List Int) : List Int := if l.getLast? = some 13 then l.dropLast else l
/-- The lines of what is left, behind what has been read of a line. -/
def lns : List Int → List Int → List (List Int)
  | acc, [] => [acc]
  | acc, x :: t => if x = 10 then strip acc :: lns [] t else lns (acc ++ [x]) t
def lines (b : List Int) : List (List Int) := lns [] b
def bl (x : Int) : Bool := x == 32 || x == 9
/-- A line without blanks at its end. -/
def trim (l : List Int) : List Int := (l.reverse.dropWhile bl).reverse
/-- Lines with something between each two. -/
def jn (by' : List Int) : List (List Int) → List Int
  | [] => []
  | [l] => l
  | l :: m :: r => l ++ by' ++ jn by' (m :: r)

theorem jn_snoc (s : List Int) : ∀ (p : List (List Int)) (x : List Int), jn s (p ++ [x]) = if p = [] then x else jn s p ++ s ++ x
  | [], x => rfl
  | [l], x => by simp [jn]
  | l :: m :: r, x => by
    have h := jn_snoc s (m :: r) x
    simp only [List.cons_append, jn, reduceCtorEq, if_false] at h ⊢
    rw [h]; simp
theorem jn_length (s : List Int) (N : Nat) : ∀ (p : List (List Int)), (∀ l ∈ p, l.length ≤ N) → (jn s p).length ≤ p.length * (N + s.length)
  | [], _ => by simp [jn]
  | [l], h => by have := h l (by simp); simp [jn]; omega
  | l :: m :: r, h => by
    have h1 := jn_length s N (m :: r) (fun x hx => h x (by simp at hx ⊢; exact .inr hx))
    have h2 := h l (by simp)
    simp only [jn, List.length_append, List.length_cons] at h1 ⊢
    have e : (r.length + 1 + 1) * (N + s.length) = (r.length + 1) * (N + s.length) + (N + s.length) := by rw [Nat.add_mul, Nat.one_mul]
    rw [e]; omega
theorem jn_byt {s : List Int} (hs : Byt s) : ∀ (p : List (List Int)), (∀ l ∈ p, Byt l) → Byt (jn s p)
  | [], _ => Byt.nil
  | [l], h => h l (by simp)
  | l :: m :: r, h => ((h l (by simp)).append hs).append (jn_byt hs (m :: r) (fun x hx => h x (by simp at hx ⊢; exact .inr hx)))

theorem strip_mem {l : List Int} {x : Int} (h : x ∈ strip l) : x ∈ l := by
  unfold strip at h; split at h
  · exact (List.dropLast_sublist l).subset h
  · exact h
theorem strip_length (l : List Int) : (strip l).length ≤ l.length := by unfold strip; split <;> simp
theorem strip_snoc (l : List Int) : strip (l ++ [13]) = l := by simp [strip]
theorem strip_keep {l : List Int} (h : l.getLast? ≠ some 13) : strip l = l := by simp [strip, h]

/-- What has no byte 10 is read into the line. -/
theorem lns_app : ∀ (y acc t : List Int), (10 : Int) ∉ y → lns acc (y ++ t) = lns (acc ++ y) t
  | [], acc, t, _ => by simp
  | x :: y, acc, t, h => by
    have hx : x ≠ 10 := fun e => h (by simp [e])
    rw [List.cons_append, lns, if_neg hx, lns_app y (acc ++ [x]) t (fun hy => h (by simp [hy]))]; simp
theorem lns_flat {y : List Int} (h : (10 : Int) ∉ y) : lines y = [y] := by
  have := lns_app y [] [] h
  simpa [lines, lns] using this
theorem lines_cut {y : List Int} (h : (10 : Int) ∉ y) (t : List Int) : lines (y ++ 10 :: t) = strip y :: lines t := by
  unfold lines
  rw [lns_app y [] _ h]
  simp [lns]
theorem lns_ne : ∀ (t acc : List Int), lns acc t ≠ []
  | [], acc => by simp [lns]
  | x :: t, acc => by rw [lns]; split; · simp
                      exact lns_ne t _
theorem lines_ne (b : List Int) : lines b ≠ [] := lns_ne b []
theorem lns_no10 : ∀ (t acc : List Int), (10 : Int) ∉ acc → ∀ l ∈ lns acc t, (10 : Int) ∉ l
  | [], acc, h, l, hl => by simp [lns] at hl; subst hl; exact h
  | x :: t, acc, h, l, hl => by
    rw [lns] at hl; split at hl
    · rcases List.mem_cons.1 hl with rfl | hl
      · exact fun hm => h (strip_mem hm)
      · exact lns_no10 t [] (by simp) l hl
    · rename_i hx
      exact lns_no10 t _ (by simp [h]; exact fun e => hx e.symm) l hl
theorem lines_no10 (b : List Int) : ∀ l ∈ lines b, (10 : Int) ∉ l := lns_no10 b [] (by simp)
theorem lns_count : ∀ (t acc : List Int), (lns acc t).length = t.count 10 + 1
  | [], acc => by simp [lns]
  | x :: t, acc => by
    rw [lns]; split
    · rename_i h; subst h; simp [lns_count t []]
    · rename_i h; rw [lns_count t]; simp [h]
theorem lines_count (b : List Int) : (lines b).length = b.count 10 + 1 := lns_count b []
theorem lines_few (b : List Int) : (lines b).length ≤ b.length + 1 := by
  rw [lines_count]; have := List.count_le_length (a := (10 : Int)) (l := b); omega
theorem lns_short : ∀ (t acc : List Int), ∀ l ∈ lns acc t, l.length ≤ acc.length + t.length
  | [], acc, l, hl => by simp [lns] at hl; subst hl; simp
  | x :: t, acc, l, hl => by
    rw [lns] at hl; split at hl
    · rcases List.mem_cons.1 hl with rfl | hl
      · have := strip_length acc; simp; omega
      · have := lns_short t [] l hl; simp at this ⊢; omega
    · have := lns_short t _ l hl; simp at this ⊢; omega
theorem lines_short (b : List Int) : ∀ l ∈ lines b, l.length ≤ b.length := fun l hl => by have := lns_short b [] l hl; simpa using this
theorem Byt.strip {l : List Int} (h : Byt l) : Byt (strip l) := fun n hn => h n (strip_mem hn)
theorem lns_byt : ∀ (t acc : List Int), Byt acc → Byt t → ∀ l ∈ lns acc t, Byt l
  | [], acc, h, _, l, hl => by simp [lns] at hl; subst hl; exact h
  | x :: t, acc, h, ht, l, hl => by
    have ht' : Byt t := fun n hn => ht n (by simp [hn])
    rw [lns] at hl; split at hl
    · rcases List.mem_cons.1 hl with rfl | hl
      · exact T.Byt.strip h
      · exact lns_byt t [] Byt.nil ht' l hl
    · exact lns_byt t _ (h.append (fun n hn => ht n (by simp at hn; simp [hn]))) ht' l hl
theorem lines_byt {b : List Int} (h : Byt b) : ∀ l ∈ lines b, Byt l := lns_byt b [] Byt.nil h

/-- Lines without the byte 10, joined by 13 and 10, are read again. -/
theorem lines_crlf : ∀ (ls : List (List Int)), ls ≠ [] → (∀ l ∈ ls, (10 : Int) ∉ l) → lines (jn [13, 10] ls) = ls
  | [], h, _ => absurd rfl h
  | [l], _, h => lns_flat (h l (by simp))
  | l :: m :: r, _, h => by
    have e : jn [13, 10] (l :: m :: r) = (l ++ [13]) ++ 10 :: jn [13, 10] (m :: r) := by simp [jn]
    rw [e, lines_cut (by simp; exact h l (by simp)), strip_snoc, lines_crlf (m :: r) (by simp) (fun x hx => h x (by simp at hx ⊢; exact .inr hx))]
/-- The same by the byte 10 alone, if no line ends with 13. -/
theorem lines_lf : ∀ (ls : List (List Int)), ls ≠ [] → (∀ l ∈ ls, (10 : Int) ∉ l) → (∀ l ∈ ls, l.getLast? ≠ some 13) → lines (jn [10] ls) = ls
  | [], h, _, _ => absurd rfl h
  | [l], _, h, _ => lns_flat (h l (by simp))
  | l :: m :: r, _, h, h2 => by
    have e : jn [10] (l :: m :: r) = l ++ 10 :: jn [10] (m :: r) := by simp [jn]
    rw [e, lines_cut (h l (by simp)), strip_keep (h2 l (by simp)), lines_lf (m :: r) (by simp) (fun x hx => h x (by simp at hx ⊢; exact .inr hx)) (fun x hx => h2 x (by simp at hx ⊢; exact .inr hx))]

def canon (b : List Int) : List Int := jn [13, 10] (lines b)
def plain (b : List Int) : List Int := jn [10] (lines b)
def signed (b : List Int) : List Int := jn [13, 10] ((lines b).map trim)

theorem lines_canon (b : List Int) : lines (canon b) = lines b := lines_crlf _ (lines_ne b) (lines_no10 b)
theorem canon_canon (b : List Int) : canon (canon b) = canon b := by unfold canon; rw [show lines (jn [13, 10] (lines b)) = lines b from lines_canon b]
theorem canon_plain {b : List Int} (h : ∀ l ∈ lines b, l.getLast? ≠ some 13) : canon (plain b) = canon b := by
  unfold canon; rw [show lines (plain b) = lines b from lines_lf _ (lines_ne b) (lines_no10 b) h]
theorem dropWhile_suffix (l : List Int) : (l.dropWhile bl).dropWhile bl = l.dropWhile bl := by
  induction l with
  | nil => rfl
  | cons x t ih => by_cases h : bl x = true
                   · simp [List.dropWhile, h, ih]
                   · simp [List.dropWhile, h]
theorem trim_trim (l : List Int) : trim (trim l) = trim l := by unfold trim; rw [List.reverse_reverse, dropWhile_suffix]
theorem trim_mem {l : List Int} {x : Int} (h : x ∈ trim l) : x ∈ l := by
  unfold trim at h; rw [List.mem_reverse] at h
  exact List.mem_reverse.1 ((List.dropWhile_sublist bl).subset h)
theorem trim_length (l : List Int) : (trim l).length ≤ l.length := by
  unfold trim; rw [List.length_reverse]
  have := (List.dropWhile_sublist (p := bl) (l := l.reverse)).length_le
  simpa using this
theorem trim_take (l : List Int) : trim l = l.take (trim l).length := by
  have h : trim l <+: l := by
    unfold trim
    have := List.dropWhile_suffix (l := l.reverse) bl
    have h2 := List.reverse_prefix.2 this
    simpa using h2
  exact (List.prefix_iff_eq_take.1 h)
theorem Byt.trim {l : List Int} (h : Byt l) : Byt (trim l) := fun n hn => h n (trim_mem hn)
theorem trim_snoc_bl {l : List Int} {x : Int} (h : bl x = true) : trim (l ++ [x]) = trim l := by simp [trim, h]
theorem trim_snoc_no {l : List Int} {x : Int} (h : bl x = false) : trim (l ++ [x]) = l ++ [x] := by simp [trim, h]
theorem trim_nil : trim [] = [] := rfl
theorem lines_signed (b : List Int) : lines (signed b) = (lines b).map trim :=
  lines_crlf _ (by simp [lines_ne b]) (fun l hl hm => by
    obtain ⟨k, hk, rfl⟩ := List.mem_map.1 hl
    exact lines_no10 b k hk (trim_mem hm))
theorem signed_signed (b : List Int) : signed (signed b) = signed b := by
  rw [show signed (signed b) = jn [13, 10] ((lines (signed b)).map trim) from rfl, lines_signed, List.map_map]
  unfold signed
  congr 1
  apply List.map_congr_left
  intro l _; exact trim_trim l
theorem signed_canon (b : List Int) : signed (canon b) = signed b := by unfold signed; rw [lines_canon]
theorem canon_byt {b : List Int} (h : Byt b) : Byt (canon b) := jn_byt (by intro n hn; simp at hn; omega) _ (lines_byt h)
theorem plain_byt {b : List Int} (h : Byt b) : Byt (plain b) := jn_byt (by intro n hn; simp at hn; omega) _ (lines_byt h)
theorem signed_byt {b : List Int} (h : Byt b) : Byt (signed b) := jn_byt (by intro n hn; simp at hn; omega) _ (fun l hl => by
  obtain ⟨k, hk, rfl⟩ := List.mem_map.1 hl
  exact T.Byt.trim (lines_byt h k hk))

/-- Where the first byte 10 is, if there is one. -/
def at10 : List Int → Option Nat
  | [] => none
  | x :: t => if x = 10 then some 0 else (at10 t).map (· + 1)
theorem at10_none : ∀ {l : List Int}, at10 l = none → (10 : Int) ∉ l
  | [], _ => by simp
  | x :: t, h => by
    rw [at10] at h; split at h
    · cases h
    · rename_i hx
      have := at10_none (Option.map_eq_none_iff.1 h)
      simp [this]; exact fun e => hx e.symm
theorem at10_some : ∀ {l : List Int} {i : Nat}, at10 l = some i → i < l.length ∧ (10 : Int) ∉ l.take i ∧ l = l.take i ++ 10 :: l.drop (i + 1)
  | [], i, h => by cases h
  | x :: t, i, h => by
    rw [at10] at h; split at h
    · rename_i hx; cases h; subst hx; simp
    · rename_i hx
      obtain ⟨j, hj, rfl⟩ := Option.map_eq_some_iff.1 h
      obtain ⟨h1, h2, h3⟩ := at10_some hj
      refine ⟨by simp; omega, by simp [h2]; exact fun e => hx e.symm, ?_⟩
      simp only [List.take_succ_cons, List.drop_succ_cons, List.cons_append]
      rw [← h3]
theorem lines_none {l : List Int} (h : at10 l = none) : lines l = [l] := lns_flat (at10_none h)
theorem lines_some {l : List Int} {i : Nat} (h : at10 l = some i) : lines l = strip (l.take i) :: lines (l.drop (i + 1)) := by
  obtain ⟨_, h2, h3⟩ := at10_some h
  conv => lhs; rw [h3]
  exact lines_cut h2 _
end Go.Proofs.YtcllmkfaifalgaaDoor.T
