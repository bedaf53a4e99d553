/-
  The document's hashes by their numbers: Size, Weak, Sum, over this seat's translation. Conditions: as each says.
-/
import Derived.Test.YtmbaenodibfedaaDoorLay9
import Derived.Test.YtmbaenodibfedaaDoorRefT
import Derived.Test.YtmbaenodibfedaaDoorRf2T
import Derived.Test.YtmbaenodibfedaaDoorRf3T
namespace Go.Proofs.YtmbaenodibfedaaDoor.S9
open Go.RowKit
set_option linter.unusedVariables false
set_option maxRecDepth 10000

theorem refsize_any (a : Int) (w : World) :
    Calls Tryd.prog 11 #[.int .i64 a] w fun e w' => e = .returned (.int .i64 (siz a : Nat)) ∧ w = w' := by
  rcases kn_cases a with rfl | rfl | rfl | rfl | rfl | h
  · go_enter Tryd.func11, Tryd.ntmps11
    go_wp2
    go_ret
    exact ⟨rfl, rfl⟩
  · go_enter Tryd.func11, Tryd.ntmps11
    go_wp2
    go_ret
    exact ⟨rfl, rfl⟩
  · go_enter Tryd.func11, Tryd.ntmps11
    go_wp2
    go_ret
    exact ⟨rfl, rfl⟩
  · go_enter Tryd.func11, Tryd.ntmps11
    go_wp2
    go_ret
    exact ⟨rfl, rfl⟩
  · go_enter Tryd.func11, Tryd.ntmps11
    go_wp2
    go_ret
    exact ⟨rfl, rfl⟩
  · rw [siz_no h]
    obtain ⟨h1, h2, h3, h4, h5⟩ := not_kn h
    clear h
    go_enter Tryd.func11, Tryd.ntmps11
    go_wp2
    go_ret
    exact ⟨rfl, rfl⟩
theorem refweak_any (a : Int) (w : World) :
    Calls Tryd.prog 13 #[.int .i64 a] w fun e w' => e = .returned (.bool (decide (a = 2) || decide (siz a = 0))) ∧ w = w' := by
  by_cases h2 : a = 2
  · subst h2
    go_enter Tryd.func13, Tryd.ntmps13
    go_wp2
    go_ret
    exact ⟨rfl, rfl⟩
  · have d2 : decide (a = 2) = false := decide_eq_false h2
    rw [d2, Bool.false_or]
    go_enter Tryd.func13, Tryd.ntmps13
    go_wp2_with fail
    refine (refsize_any a _).mono ?_
    rintro _ w' ⟨rfl, rfl⟩
    by_cases h0 : siz a = 0
    · rw [h0]
      go_wp2
      go_ret
      exact ⟨by simp [h0], rfl⟩
    · have h1 : ¬ ((siz a : Nat) : Int) = 0 := by omega
      go_wp2
      go_ret
      exact ⟨by simp [h0, h2], rfl⟩
theorem refsum_2 (v : Value) (xs : List Nat) (w : World) (hv : SlV w v (C .u8 xs)) (hx : Lo 256 xs) (hm : xs.length ≤ 1000000000000) :
    Calls Tryd.prog 9 #[.int .i64 2, v] w fun e w' => ∃ v', e = .returned (.tuple #[v', .int .i64 0]) ∧ SlV w' v' (C .u8 (dig 2 xs)) ∧ Below w.heap.size w w' := by
  obtain ⟨H, hH⟩ : ∃ H, dig 2 xs = H := ⟨_, rfl⟩
  have hn : H.length = 20 := by rw [← hH]; exact dig_length 2 xs
  rw [hH]
  have HH := Away.mk (show S1.sum1 xs = H from hH)
  clear hH
  go_enter Tryd.func9, Tryd.ntmps9
  go_wp2_with fail
  refine (S1.refsum_any v xs _ hv hx hm).mono ?_
  rintro _ w1 ⟨rfl, hb1⟩
  rw [HH.out]
  have hA := Row.new w1 41 (C .u8 (Z 20))
  have hL2 := Below.more hb1 hb1.size (.cells (C .u8 (Z 20)).toArray 41)
  have hsz := hb1.size
  have iH : (Tryd.prog.info? 41).map (·.size) = some (C .u8 H).length := by rw [C_length, hn]; exact S1.i20
  have hH : (C .u8 (Z 20)).length = (C .u8 H).length := by rw [C_length, C_length, hn, Z_length]
  clear hb1 hv HH
  go_wp2_with (first | refine wpList_alloc_row rfl 41 rfl _ S1.z20 ?_ | (refine wpList_store_R rfl 41 _ _ rfl _ (C .u8 H) rfl rfl hA iH hH (C_allL _ _) ?_; intro w2 hA2 hg2 hz2; have hL3 := below_grown hL2.1 hg2 hsz hA.lt))
  go_ret2
  refine ⟨_, rfl, ?_, hL3⟩
  have := hA2.slAll (by rw [C_length, hn]; decide)
  rw [C_length, hn] at this
  exact this
theorem refsum_8 (v : Value) (xs : List Nat) (w : World) (hv : SlV w v (C .u8 xs)) (hx : Lo 256 xs) (hm : xs.length ≤ 1000000000000) :
    Calls Tryd.prog 9 #[.int .i64 8, v] w fun e w' => ∃ v', e = .returned (.tuple #[v', .int .i64 0]) ∧ SlV w' v' (C .u8 (dig 8 xs)) ∧ Below w.heap.size w w' := by
  have HH := Away.mk (show S2.hash2 true xs = dig 8 xs from rfl)
  go_enter Tryd.func9, Tryd.ntmps9
  go_wp2_with fail
  refine (S2.refsum_any true v xs _ hv hx hm).mono ?_
  rintro _ w1 ⟨v1, rfl, hv1, hb1⟩
  rw [HH.out] at hv1
  go_wp2
  go_ret2
  exact ⟨_, rfl, hv1, hb1⟩
theorem refsum_9 (v : Value) (xs : List Nat) (w : World) (hv : SlV w v (C .u8 xs)) (hx : Lo 256 xs) (hm : xs.length ≤ 1000000000000) :
    Calls Tryd.prog 9 #[.int .i64 9, v] w fun e w' => ∃ v', e = .returned (.tuple #[v', .int .i64 0]) ∧ SlV w' v' (C .u8 (dig 9 xs)) ∧ Below w.heap.size w w' := by
  have HH := Away.mk (show S3.hash3 false xs = dig 9 xs from rfl)
  go_enter Tryd.func9, Tryd.ntmps9
  go_wp2_with fail
  refine (S3.refsum_any false v xs _ hv hx hm).mono ?_
  rintro _ w1 ⟨v1, rfl, hv1, hb1⟩
  rw [HH.out] at hv1
  go_wp2
  go_ret2
  exact ⟨_, rfl, hv1, hb1⟩
theorem refsum_10 (v : Value) (xs : List Nat) (w : World) (hv : SlV w v (C .u8 xs)) (hx : Lo 256 xs) (hm : xs.length ≤ 1000000000000) :
    Calls Tryd.prog 9 #[.int .i64 10, v] w fun e w' => ∃ v', e = .returned (.tuple #[v', .int .i64 0]) ∧ SlV w' v' (C .u8 (dig 10 xs)) ∧ Below w.heap.size w w' := by
  have HH := Away.mk (show S3.hash3 true xs = dig 10 xs from rfl)
  go_enter Tryd.func9, Tryd.ntmps9
  go_wp2_with fail
  refine (S3.refsum_any true v xs _ hv hx hm).mono ?_
  rintro _ w1 ⟨v1, rfl, hv1, hb1⟩
  rw [HH.out] at hv1
  go_wp2
  go_ret2
  exact ⟨_, rfl, hv1, hb1⟩
theorem refsum_11 (v : Value) (xs : List Nat) (w : World) (hv : SlV w v (C .u8 xs)) (hx : Lo 256 xs) (hm : xs.length ≤ 1000000000000) :
    Calls Tryd.prog 9 #[.int .i64 11, v] w fun e w' => ∃ v', e = .returned (.tuple #[v', .int .i64 0]) ∧ SlV w' v' (C .u8 (dig 11 xs)) ∧ Below w.heap.size w w' := by
  have HH := Away.mk (show S2.hash2 false xs = dig 11 xs from rfl)
  go_enter Tryd.func9, Tryd.ntmps9
  go_wp2_with fail
  refine (S2.refsum_any false v xs _ hv hx hm).mono ?_
  rintro _ w1 ⟨v1, rfl, hv1, hb1⟩
  rw [HH.out] at hv1
  go_wp2
  go_ret2
  exact ⟨_, rfl, hv1, hb1⟩
theorem refsum_no (a : Int) (h : ¬ Kn a) (v : Value) (w : World) :
    Calls Tryd.prog 9 #[.int .i64 a, v] w fun e w' => e = .returned (.tuple #[.slice none 0 0, .int .i64 9]) ∧ w = w' := by
  obtain ⟨h1, h2, h3, h4, h5⟩ := not_kn h
  clear h
  go_enter Tryd.func9, Tryd.ntmps9
  go_wp2
  go_ret2
  exact ⟨rfl, rfl⟩
theorem refsum_any (a : Int) (h : Kn a) (v : Value) (xs : List Nat) (w : World) (hv : SlV w v (C .u8 xs)) (hx : Lo 256 xs) (hm : xs.length ≤ 1000000000000) :
    Calls Tryd.prog 9 #[.int .i64 a, v] w fun e w' => ∃ v', e = .returned (.tuple #[v', .int .i64 0]) ∧ SlV w' v' (C .u8 (dig a xs)) ∧ Below w.heap.size w w' := by
  rcases h with rfl | rfl | rfl | rfl | rfl
  · exact refsum_2 v xs w hv hx hm
  · exact refsum_8 v xs w hv hx hm
  · exact refsum_9 v xs w hv hx hm
  · exact refsum_10 v xs w hv hx hm
  · exact refsum_11 v xs w hv hx hm
end Go.Proofs.YtmbaenodibfedaaDoor.S9
