/-
  Hashes by their numbers: Size, Weak, Sum and the live question, over this seat's translation. Conditions: as each says; the steps' numbers stand in the packages' variables.
-/
import Derived.Test.YtmbaenodibfedaaDoorShaF
import Derived.Test.YtmbaenodibfedaaDoorSh2F
import Derived.Test.YtmbaenodibfedaaDoorSh3F
import Derived.Test.YtmbaenodibfedaaDoorKit8
import Derived.Lib.SlBytesConst
namespace Go.Proofs.YtmbaenodibfedaaDoor.S9
open Go.RowKit
set_option linter.unusedVariables false
set_option maxRecDepth 10000

/-- How many bytes. -/
def siz (a : Int) : Nat := if a = 2 then 20 else if a = 8 then 32 else if a = 9 then 48 else if a = 10 then 64 else if a = 11 then 28 else 0
/-- The hash. -/
def dig (a : Int) (xs : List Nat) : List Nat := if a = 2 then S1.sum1 xs else if a = 8 then S2.sum2 true xs else if a = 9 then (S3.sum3 false xs).take 48 else if a = 10 then S3.sum3 true xs else if a = 11 then (S2.sum2 false xs).take 28 else []
/-- Known. -/
def Kn (a : Int) : Prop := a = 2 ∨ a = 8 ∨ a = 9 ∨ a = 10 ∨ a = 11
theorem not_kn {a : Int} (h : ¬ Kn a) : a ≠ 2 ∧ a ≠ 8 ∧ a ≠ 9 ∧ a ≠ 10 ∧ a ≠ 11 := by unfold Kn at h; omega
theorem kn_cases (a : Int) : a = 2 ∨ a = 8 ∨ a = 9 ∨ a = 10 ∨ a = 11 ∨ ¬ Kn a := by unfold Kn; omega
theorem siz_no {a : Int} (h : ¬ Kn a) : siz a = 0 := by
  obtain ⟨h1, h2, h3, h4, h5⟩ := not_kn h
  simp [siz, h1, h2, h3, h4, h5]
theorem siz_kn {a : Int} (h : Kn a) : siz a ≠ 0 := by
  rcases h with rfl | rfl | rfl | rfl | rfl <;> decide
theorem sum1_length (xs : List Nat) : (S1.sum1 xs).length = 20 := rfl
theorem sum2_length (b : Bool) (xs : List Nat) : (S2.sum2 b xs).length = 32 := S2.out2_length _
theorem sum3_length (b : Bool) (xs : List Nat) : (S3.sum3 b xs).length = 64 := S3.out3_length _
theorem dig_length (a : Int) (xs : List Nat) : (dig a xs).length = siz a := by
  rcases kn_cases a with rfl | rfl | rfl | rfl | rfl | h
  · exact sum1_length xs
  · exact sum2_length true xs
  · show ((S3.sum3 false xs).take 48).length = 48
    rw [List.length_take, sum3_length]; rfl
  · exact sum3_length true xs
  · show ((S2.sum2 false xs).take 28).length = 28
    rw [List.length_take, sum2_length]; rfl
  · obtain ⟨h1, h2, h3, h4, h5⟩ := not_kn h
    simp [siz, dig, h1, h2, h3, h4, h5]

/-- The packages' variables hold the steps' numbers. -/
structure Tabs (w : World) : Prop where
  a : S2.Tab w
  b : S3.Tab w
theorem Tabs.below {w w' : World} (h : Tabs w) (hb : Below w.heap.size w w') : Tabs w' := ⟨h.a.below hb, h.b.below hb⟩
theorem Tabs.drew {w : World} (h : Tabs w) : Tabs w.drew := ⟨h.a, h.b⟩

theorem size_any (a : Int) (w : World) :
    Calls Tryd.prog 10 #[.int .i64 a] w fun e w' => e = .returned (.int .i64 (siz a : Nat)) ∧ w = w' := by
  rcases kn_cases a with rfl | rfl | rfl | rfl | rfl | h
  · go_enter Tryd.func10, Tryd.ntmps10
    go_wp2
    go_ret
    exact ⟨rfl, rfl⟩
  · go_enter Tryd.func10, Tryd.ntmps10
    go_wp2
    go_ret
    exact ⟨rfl, rfl⟩
  · go_enter Tryd.func10, Tryd.ntmps10
    go_wp2
    go_ret
    exact ⟨rfl, rfl⟩
  · go_enter Tryd.func10, Tryd.ntmps10
    go_wp2
    go_ret
    exact ⟨rfl, rfl⟩
  · go_enter Tryd.func10, Tryd.ntmps10
    go_wp2
    go_ret
    exact ⟨rfl, rfl⟩
  · rw [siz_no h]
    obtain ⟨h1, h2, h3, h4, h5⟩ := not_kn h
    clear h
    go_enter Tryd.func10, Tryd.ntmps10
    go_wp2
    go_ret
    exact ⟨rfl, rfl⟩
theorem weak_any (a : Int) (w : World) :
    Calls Tryd.prog 12 #[.int .i64 a] w fun e w' => e = .returned (.bool (decide (a = 2) || decide (siz a = 0))) ∧ w = w' := by
  by_cases h2 : a = 2
  · subst h2
    go_enter Tryd.func12, Tryd.ntmps12
    go_wp2
    go_ret
    exact ⟨rfl, rfl⟩
  · have d2 : decide (a = 2) = false := decide_eq_false h2
    rw [d2, Bool.false_or]
    go_enter Tryd.func12, Tryd.ntmps12
    go_wp2_with fail
    refine (size_any a _).mono ?_
    rintro _ w' ⟨rfl, rfl⟩
    by_cases h0 : siz a = 0
    · rw [h0]
      go_wp2
      go_ret
      exact ⟨by simp [h0], rfl⟩
    · have h1 : ¬ ((siz a : Nat) : Int) = 0 := by omega
      go_wp2
      go_ret
      exact ⟨by simp [h0, h2], rfl⟩
theorem sum_2 (v : Value) (xs : List Nat) (w : World) (hv : SlV w v (C .u8 xs)) (hx : Lo 256 xs) (hm : xs.length < 1152921504606846976) (hT : Tabs w) :
    Calls Tryd.prog 8 #[.int .i64 2, v] w fun e w' => ∃ v', e = .returned (.tuple #[v', .int .i64 0]) ∧ SlV w' v' (C .u8 (dig 2 xs)) ∧ Below w.heap.size w w' := by
  obtain ⟨H, hH⟩ : ∃ H, dig 2 xs = H := ⟨_, rfl⟩
  have hn : H.length = 20 := by rw [← hH]; exact dig_length 2 xs
  rw [hH]
  have HH := Away.mk (show S1.sum1 xs = H from hH)
  clear hH
  go_enter Tryd.func8, Tryd.ntmps8
  go_wp2_with fail
  refine (S1.sum_any v xs _ hv hx).mono ?_
  rintro _ w1 ⟨rfl, hb1⟩
  rw [HH.out]
  have hA := Row.new w1 41 (C .u8 (Z 20))
  have hL2 := Below.more hb1 hb1.size (.cells (C .u8 (Z 20)).toArray 41)
  have hsz := hb1.size
  have iH : (Tryd.prog.info? 41).map (·.size) = some (C .u8 H).length := by rw [C_length, hn]; exact S1.i20
  have hH : (C .u8 (Z 20)).length = (C .u8 H).length := by rw [C_length, C_length, hn, Z_length]
  clear hb1 hv HH
  go_wp2_with (first | refine wpList_alloc_row rfl 41 rfl _ S1.z20 ?_ | (refine wpList_store_R rfl 41 _ _ rfl _ (C .u8 H) rfl rfl hA iH hH (C_allL _ _) ?_; intro w2 hA2 hg2 hz2; have hL3 := below_grown hL2.1 hg2 hsz hA.lt))
  go_ret2
  refine ⟨_, rfl, ?_, hL3⟩
  have := hA2.slAll (by rw [C_length, hn]; decide)
  rw [C_length, hn] at this
  exact this
theorem sum_8 (v : Value) (xs : List Nat) (w : World) (hv : SlV w v (C .u8 xs)) (hx : Lo 256 xs) (hm : xs.length < 1152921504606846976) (hT : Tabs w) :
    Calls Tryd.prog 8 #[.int .i64 8, v] w fun e w' => ∃ v', e = .returned (.tuple #[v', .int .i64 0]) ∧ SlV w' v' (C .u8 (dig 8 xs)) ∧ Below w.heap.size w w' := by
  obtain ⟨H, hH⟩ : ∃ H, dig 8 xs = H := ⟨_, rfl⟩
  have hn : H.length = 32 := by rw [← hH]; exact dig_length 8 xs
  rw [hH]
  have HH := Away.mk (show S2.sum2 true xs = H from hH)
  clear hH
  go_enter Tryd.func8, Tryd.ntmps8
  go_wp2_with fail
  refine (S2.sum256_any v xs _ hv hx hT.a).mono ?_
  rintro _ w1 ⟨rfl, hb1⟩
  rw [HH.out]
  have hA := Row.new w1 43 (C .u8 (Z 32))
  have hL2 := Below.more hb1 hb1.size (.cells (C .u8 (Z 32)).toArray 43)
  have hsz := hb1.size
  have iH : (Tryd.prog.info? 43).map (·.size) = some (C .u8 H).length := by rw [C_length, hn]; exact S2.i32
  have hH : (C .u8 (Z 32)).length = (C .u8 H).length := by rw [C_length, C_length, hn, Z_length]
  clear hb1 hv HH
  go_wp2_with (first | refine wpList_alloc_row rfl 43 rfl _ S2.z32 ?_ | (refine wpList_store_R rfl 43 _ _ rfl _ (C .u8 H) rfl rfl hA iH hH (C_allL _ _) ?_; intro w2 hA2 hg2 hz2; have hL3 := below_grown hL2.1 hg2 hsz hA.lt))
  go_ret2
  refine ⟨_, rfl, ?_, hL3⟩
  have := hA2.slAll (by rw [C_length, hn]; decide)
  rw [C_length, hn] at this
  exact this
theorem sum_9 (v : Value) (xs : List Nat) (w : World) (hv : SlV w v (C .u8 xs)) (hx : Lo 256 xs) (hm : xs.length < 1152921504606846976) (hT : Tabs w) :
    Calls Tryd.prog 8 #[.int .i64 9, v] w fun e w' => ∃ v', e = .returned (.tuple #[v', .int .i64 0]) ∧ SlV w' v' (C .u8 (dig 9 xs)) ∧ Below w.heap.size w w' := by
  obtain ⟨H, hH⟩ : ∃ H, dig 9 xs = H := ⟨_, rfl⟩
  have hn : H.length = 48 := by rw [← hH]; exact dig_length 9 xs
  rw [hH]
  have HH := Away.mk (show (S3.sum3 false xs).take 48 = H from hH)
  clear hH
  go_enter Tryd.func8, Tryd.ntmps8
  go_wp2_with fail
  refine (S3.sum384_any v xs _ hv hx hm hT.b).mono ?_
  rintro _ w1 ⟨rfl, hb1⟩
  rw [HH.out]
  have hA := Row.new w1 45 (C .u8 (Z 48))
  have hL2 := Below.more hb1 hb1.size (.cells (C .u8 (Z 48)).toArray 45)
  have hsz := hb1.size
  have iH : (Tryd.prog.info? 45).map (·.size) = some (C .u8 H).length := by rw [C_length, hn]; exact S3.i48
  have hH : (C .u8 (Z 48)).length = (C .u8 H).length := by rw [C_length, C_length, hn, Z_length]
  clear hb1 hv HH
  go_wp2_with (first | refine wpList_alloc_row rfl 45 rfl _ S3.z48 ?_ | (refine wpList_store_R rfl 45 _ _ rfl _ (C .u8 H) rfl rfl hA iH hH (C_allL _ _) ?_; intro w2 hA2 hg2 hz2; have hL3 := below_grown hL2.1 hg2 hsz hA.lt))
  go_ret2
  refine ⟨_, rfl, ?_, hL3⟩
  have := hA2.slAll (by rw [C_length, hn]; decide)
  rw [C_length, hn] at this
  exact this
theorem sum_10 (v : Value) (xs : List Nat) (w : World) (hv : SlV w v (C .u8 xs)) (hx : Lo 256 xs) (hm : xs.length < 1152921504606846976) (hT : Tabs w) :
    Calls Tryd.prog 8 #[.int .i64 10, v] w fun e w' => ∃ v', e = .returned (.tuple #[v', .int .i64 0]) ∧ SlV w' v' (C .u8 (dig 10 xs)) ∧ Below w.heap.size w w' := by
  obtain ⟨H, hH⟩ : ∃ H, dig 10 xs = H := ⟨_, rfl⟩
  have hn : H.length = 64 := by rw [← hH]; exact dig_length 10 xs
  rw [hH]
  have HH := Away.mk (show S3.sum3 true xs = H from hH)
  clear hH
  go_enter Tryd.func8, Tryd.ntmps8
  go_wp2_with fail
  refine (S3.sum512_any v xs _ hv hx hm hT.b).mono ?_
  rintro _ w1 ⟨rfl, hb1⟩
  rw [HH.out]
  have hA := Row.new w1 47 (C .u8 (Z 64))
  have hL2 := Below.more hb1 hb1.size (.cells (C .u8 (Z 64)).toArray 47)
  have hsz := hb1.size
  have iH : (Tryd.prog.info? 47).map (·.size) = some (C .u8 H).length := by rw [C_length, hn]; exact S3.i64
  have hH : (C .u8 (Z 64)).length = (C .u8 H).length := by rw [C_length, C_length, hn, Z_length]
  clear hb1 hv HH
  go_wp2_with (first | refine wpList_alloc_row rfl 47 rfl _ S3.z64 ?_ | (refine wpList_store_R rfl 47 _ _ rfl _ (C .u8 H) rfl rfl hA iH hH (C_allL _ _) ?_; intro w2 hA2 hg2 hz2; have hL3 := below_grown hL2.1 hg2 hsz hA.lt))
  go_ret2
  refine ⟨_, rfl, ?_, hL3⟩
  have := hA2.slAll (by rw [C_length, hn]; decide)
  rw [C_length, hn] at this
  exact this
theorem sum_11 (v : Value) (xs : List Nat) (w : World) (hv : SlV w v (C .u8 xs)) (hx : Lo 256 xs) (hm : xs.length < 1152921504606846976) (hT : Tabs w) :
    Calls Tryd.prog 8 #[.int .i64 11, v] w fun e w' => ∃ v', e = .returned (.tuple #[v', .int .i64 0]) ∧ SlV w' v' (C .u8 (dig 11 xs)) ∧ Below w.heap.size w w' := by
  obtain ⟨H, hH⟩ : ∃ H, dig 11 xs = H := ⟨_, rfl⟩
  have hn : H.length = 28 := by rw [← hH]; exact dig_length 11 xs
  rw [hH]
  have HH := Away.mk (show (S2.sum2 false xs).take 28 = H from hH)
  clear hH
  go_enter Tryd.func8, Tryd.ntmps8
  go_wp2_with fail
  refine (S2.sum224_any v xs _ hv hx hT.a).mono ?_
  rintro _ w1 ⟨rfl, hb1⟩
  rw [HH.out]
  have hA := Row.new w1 49 (C .u8 (Z 28))
  have hL2 := Below.more hb1 hb1.size (.cells (C .u8 (Z 28)).toArray 49)
  have hsz := hb1.size
  have iH : (Tryd.prog.info? 49).map (·.size) = some (C .u8 H).length := by rw [C_length, hn]; exact S2.i28
  have hH : (C .u8 (Z 28)).length = (C .u8 H).length := by rw [C_length, C_length, hn, Z_length]
  clear hb1 hv HH
  go_wp2_with (first | refine wpList_alloc_row rfl 49 rfl _ S2.z28 ?_ | (refine wpList_store_R rfl 49 _ _ rfl _ (C .u8 H) rfl rfl hA iH hH (C_allL _ _) ?_; intro w2 hA2 hg2 hz2; have hL3 := below_grown hL2.1 hg2 hsz hA.lt))
  go_ret2
  refine ⟨_, rfl, ?_, hL3⟩
  have := hA2.slAll (by rw [C_length, hn]; decide)
  rw [C_length, hn] at this
  exact this
theorem sum_no (a : Int) (h : ¬ Kn a) (v : Value) (w : World) :
    Calls Tryd.prog 8 #[.int .i64 a, v] w fun e w' => e = .returned (.tuple #[.slice none 0 0, .int .i64 9]) ∧ w = w' := by
  obtain ⟨h1, h2, h3, h4, h5⟩ := not_kn h
  clear h
  go_enter Tryd.func8, Tryd.ntmps8
  go_wp2
  go_ret2
  exact ⟨rfl, rfl⟩
theorem sum_any (a : Int) (h : Kn a) (v : Value) (xs : List Nat) (w : World) (hv : SlV w v (C .u8 xs)) (hx : Lo 256 xs) (hm : xs.length < 1152921504606846976) (hT : Tabs w) :
    Calls Tryd.prog 8 #[.int .i64 a, v] w fun e w' => ∃ v', e = .returned (.tuple #[v', .int .i64 0]) ∧ SlV w' v' (C .u8 (dig a xs)) ∧ Below w.heap.size w w' := by
  rcases h with rfl | rfl | rfl | rfl | rfl
  · exact sum_2 v xs w hv hx hm hT
  · exact sum_8 v xs w hv hx hm hT
  · exact sum_9 v xs w hv hx hm hT
  · exact sum_10 v xs w hv hx hm hT
  · exact sum_11 v xs w hv hx hm hT
theorem abc : dig 8 [97, 98, 99] = [186, 120, 22, 191, 143, 1, 207, 234, 65, 65, 64, 222, 93, 174, 34, 35, 176, 3, 97, 163, 150, 23, 122, 156, 180, 16, 255, 97, 242, 0, 21, 173] := S2.sum2_abc
theorem alive_true (w : World) (hT : Tabs w) : Calls Tryd.prog 7 #[] w fun e w' => e = .returned (.bool true) ∧ Below w.heap.size w w' := by
  have hs : SlV (w.alloc (.cells #[.int .u8 97, .int .u8 98, .int .u8 99] 5 (3, 4))) (.slice (some ⟨w.heap.size, 0, none⟩) 3 3) (C .u8 [97, 98, 99]) := SlV_newF w (C .u8 [97, 98, 99]) 5 (3, 4) (by decide)
  have hcv := fun (w : World) (C : Array Value) (n c : Nat) => Lib.run_convert_bytes_const (P := Tryd.prog) w 22 5 C n c Tryd.underlying22 Tryd.underlying5
  have hL := (Below.more (Below.refl w.heap.size w) (Nat.le_refl _) (.cells #[.int .u8 97, .int .u8 98, .int .u8 99] 5 (3, 4))).1
  go_enter Tryd.func7, Tryd.ntmps7
  go_wp2_with fail
  refine (sum_8 _ [97, 98, 99] _ hs (by intro x hx; simp at hx; omega) (by decide) (hT.below hL)).mono ?_
  rintro _ w1 ⟨v1, rfl, hv1, hb1⟩
  rw [abc] at hv1
  have hL1 := hL.trans (hb1.mono hL.size)
  clear hL hs hb1
  obtain ⟨sa, sc, rfl, q1, q2⟩ := hv1.shp (n := 32) rfl
  obtain ⟨b, off, rfl, hbl, hcx⟩ := hv1.cells (by decide)
  have c0 : w1.cell? ⟨b, off, none⟩ = some (.int .u8 186) := hcx 0 _ rfl
  clear hcx hv1
  go_wp2_with fail
  refine (sum_no 3 (by unfold Kn; omega) _ _).mono ?_
  rintro _ w2 ⟨rfl, rfl⟩
  go_wp2_with fail
  refine (size_any 10 _).mono ?_
  rintro _ w2 ⟨rfl, rfl⟩
  go_wp2_with fail
  refine (weak_any 2 _).mono ?_
  rintro _ w2 ⟨rfl, rfl⟩
  go_wp2
  go_ret
  exact ⟨rfl, hL1⟩
end Go.Proofs.YtmbaenodibfedaaDoor.S9
