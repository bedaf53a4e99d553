/-
  The live question, and what Decode returns where the text is that of bytes, over this seat's translation. Conditions: each as it says.
-/
import Derived.Test.YtaamokcoccjjmaaRadI
namespace Go.Proofs.Ytaamokcoccjjmaa
open Go.RowKit
set_option linter.unusedVariables false
theorem decode_ok (s : ByteArray) (xs : List Int) (hS : s.data.toList = enc xs) (hx : Byt xs) (w : World) (hm : xs.length ≤ 700) :
    Calls Try.prog 11 #[.string s] w fun e w' => ∃ v, e = .returned (.tuple #[v, .int .i64 0]) ∧ w'.ownsRow w.heap.size 5 1 v xs.length (U xs) ∧ Below w.heap.size w w' := by
  refine (decode_any s _ hS w (by rw [enc_length]; omega)).mono ?_
  rintro e w' (⟨v, ys, rfl, hy, he, ho, hb⟩ | ⟨rfl, hno, hb⟩)
  · obtain rfl := enc_inj hy hx he
    exact ⟨v, rfl, ho, hb⟩
  · exact absurd rfl (hno xs hx)
theorem decode_no (s : ByteArray) (hS : ∀ xs, Byt xs → enc xs ≠ s.data.toList) (w : World) (hm : s.data.toList.length ≤ 1000) :
    Calls Try.prog 11 #[.string s] w fun e w' => e = .returned (.tuple #[.slice none 0 0, .int .i64 3]) ∧ Below w.heap.size w w' := by
  refine (decode_any s _ rfl w hm).mono ?_
  rintro e w' (⟨v, ys, rfl, hy, he, ho, hb⟩ | ⟨rfl, hno, hb⟩)
  · exact absurd he (hS ys hy)
  · exact ⟨rfl, hb⟩
theorem enc12 : enc [1, 2] = [65, 81, 73, 61] := by decide +kernel
theorem byt12 : Byt [1, 2] := by intro n hn; simp at hn; omega
theorem no_AQJ : ∀ xs, Byt xs → enc xs ≠ [65, 81, 74, 61] := by
  intro xs hx he
  have h := dec_of_enc xs hx
  rw [he, show decU (trim2 [65, 81, 74, 61]) = none from by decide +kernel] at h
  cases h
theorem str_run {w : World} {v : Value} {xs : List Int} (h : SlV w v (U xs)) : (convert 22 9 v).run Try.prog w = .ok (.string (strOfNums xs)) w :=
  run_string w 22 9 5 Try.underlying22 Try.underlying5 Try.underlying9 v xs h
theorem SlV_two (w : World) (g : Nat) (u0 u1 : Value) (e : TypeId) (hg : g = w.heap.size) : SlV (w.alloc (.cells #[u0, u1] e)) (.slice (some ⟨g, 0, none⟩) 2 2) [u0, u1] := by
  subst hg
  refine ⟨_, 2, rfl, Nat.le_refl _, by unfold maxLen; omega, fun h => by simp at h, fun _ => ⟨_, _, rfl, ?_⟩⟩
  intro i y hy
  match i, hy with
  | 0, hy => simp at hy; subst hy; simp
  | 1, hy => simp at hy; subst hy; simp
theorem alive_true (w : World) : Calls Try.prog 8 #[] w fun e w' => e = .returned (.bool true) ∧ Below w.heap.size w w' := by
  go_enter Try.func8, Try.ntmps8
  go_wp2_with fail
  refine (decode_ok _ [1, 2] enc12.symm byt12 _ (by simp)).mono ?_
  rintro e w1 ⟨v1, rfl, ho1, hb1⟩
  go_wp2_with fail
  refine (decode_no _ no_AQJ _ (by simp)).mono ?_
  rintro e w2 ⟨rfl, hb2⟩
  have ho2 := own_below ho1 hb2
  have hb2 : Below w.heap.size w w2 := hb1.trans (hb2.mono hb1.size)
  have hA2 : Below w2.heap.size w2 (w2.alloc (.cells #[.int .u8 1, .int .u8 2] 5)) := (Below.refl _ _).alloc (Nat.le_refl _) _
  go_wp2_with fail
  refine (encode_any _ [1, 2] _ (SlV_two _ _ _ _ _ rfl) byt12 (by simp)).mono ?_
  rintro e w3 ⟨rfl, hb3⟩
  rw [enc12]
  have ho3 := own_below (own_below ho2 hA2) hb3
  have cv := str_run (SlV.ofOwn ho3)
  rw [show strOfNums [1, 2] = ⟨#[1, 2]⟩ from by decide +kernel] at cv
  have hb3 : Below w.heap.size w w3 := (hb2.alloc hb2.size _).trans (hb3.mono (by have := hb2.size; simp; omega))
  go_wp2
  go_ret
  exact ⟨rfl, hb3⟩
end Go.Proofs.Ytaamokcoccjjmaa
