/-
  A block taken, numbers told, by each of the three kinds of numbers, over this seat's translation. Conditions: as each says.
-/
import Derived.Test.YtmbaenodibfedaaDoorHshT
namespace Go.Proofs.YtmbaenodibfedaaDoor.S9
open Go.RowKit
set_option linter.unusedVariables false
set_option maxRecDepth 10000

theorem tb_take (W : Nat) (ws : List Nat) {n m : Nat} (h : n ≤ m) : (tb W ws m).take n = tb W ws n := by
  simp [tb, ← List.map_take, List.take_range, Nat.min_eq_left h]
namespace W1
theorem lo_list {s : S1.S5} (h : s.ok) : Lo 4294967296 s.list := by
  obtain ⟨h1, h2, h3, h4, h5⟩ := h
  intro x hx
  simp only [S1.S5.list, List.mem_cons, List.not_mem_nil, or_false] at hx
  rcases hx with rfl | rfl | rfl | rfl | rfl <;> assumption
theorem out_all (s : S1.S5) : tb 4 s.list 20 = S1.out1 s := by
  simp [tb, List.range, List.range.loop, S1.out1, S1.out4, S1.S5.list]
theorem out_tb (s : S1.S5) (n : Nat) (hn : n ≤ 20) : tb 4 s.list n = (S1.out1 s).take n := by
  rw [← tb_take 4 s.list hn, out_all]
theorem take_any (s : S1.S5) (hs : s.ok) (v : Value) (b : List Nat) (hb : Lo 256 b) (hl : b.length = 64) (w : World) (hv : SlV w v (C .u8 b)) (hT : Tabs w) :
    Calls Tryd.prog 46 #[.agg (C .u32 s.list).toArray, v] w fun e w' => e = .returned (.agg (C .u32 (S1.blk1 s b).list).toArray) ∧ Below w.heap.size w w' := by
  obtain ⟨sa, sc, rfl, h1, h2⟩ := hv.shp hl
  have hA := ((Row.new w 59 (C .u32 s.list)).alloc (.cells (C .u32 (Z 5)).toArray 59)).alloc (.cells (C .u8 (Z 64)).toArray 47)
  have hB := (Row.newAt (w.alloc (.cells (C .u32 s.list).toArray 59)) (w.heap.size + 1) (by simp) 59 (C .u32 (Z 5))).alloc (.cells (C .u8 (Z 64)).toArray 47)
  have hC := Row.newAt ((w.alloc (.cells (C .u32 s.list).toArray 59)).alloc (.cells (C .u32 (Z 5)).toArray 59)) (w.heap.size + 1 + 1) (by simp) 47 (C .u8 (Z 64))
  have hL0 := Below.more (Below.refl w.heap.size w) (Nat.le_refl _) (.cells (C .u32 s.list).toArray 59)
  have hL1 := Below.more hL0.1 hL0.2 (.cells (C .u32 (Z 5)).toArray 59)
  have hL := (Below.more hL1.1 hL1.2 (.cells (C .u8 (Z 64)).toArray 47)).1
  clear hL0 hL1
  have hv3 := hv.below hL
  have hBn : (C .u8 (Z 64)).length = 64 := by rw [C_length, Z_length]
  have hcat : (C .u8 b).take 64 ++ (C .u8 (Z 64)).drop 64 = C .u8 b := by
    rw [List.drop_of_length_le (by rw [hBn]; exact Nat.le_refl _), List.append_nil, List.take_of_length_le (by rw [C_length, hl]; exact Nat.le_refl _)]
  have HQ := Away.mk hcat
  clear hcat
  have hib : (Tryd.prog.info? 47).map (·.size) = some (C .u8 b).toArray.size := by rw [C_size, hl]; exact S1.i64
  have his : (Tryd.prog.info? 59).map (·.size) = some (C .u32 s.list).toArray.size := S1.i5
  obtain ⟨F, hFe⟩ : ∃ F, S1.blk1 s b = F := ⟨_, rfl⟩
  have HF := Away.mk hFe
  clear hFe
  go_enter Tryd.func46, Tryd.ntmps46
  go_wp2_with (first | refine wpList_alloc_row rfl 59 rfl _ S1.z5 ?_ | refine wpList_alloc_row rfl 47 rfl _ S1.z64 ?_ | (refine wpList_copy_R rfl _ _ 22 rfl 5 Tryd.underlying22 S2.i1b (w.heap.size + 1 + 1) 64 64 64 (C .u8 (Z 64)) (C .u8 b) sa sc rfl rfl hC hv3 hBn (C_allL _ _) ?_; intro w4 hC4 hg4 hz4; rw [HQ.out] at hC4; have hA4 := hA.grown hg4 (by simp <;> omega); have hB4 := hB.grown hg4 (by simp <;> omega); have hL4 := below_grown hL hg4 (by omega) hC.lt; clear hA hB hC hL hg4 hz4 hv3) | refine wpList_load_row rfl 59 _ rfl _ rfl _ _ _ _ hA4 Tryd.underlying59 rfl his ?_ | refine wpList_load_row rfl 47 _ rfl _ rfl _ _ _ _ hC4 Tryd.underlying47 rfl hib ?_)
  refine (S1.block_any s hs b hb hl _).mono ?_
  rintro _ w5 ⟨rfl, hb5⟩
  have hB5 := hB4.belowS hb5
  have hL5 := hL4.trans (hb5.mono hL4.size)
  have hlt5 := hB5.lt
  clear hA4 hB4 hC4 hL4 hb5
  rw [HF.out]
  have iF : (Tryd.prog.info? 59).map (·.size) = some (C .u32 F.list).length := S1.i5
  have hF : (C .u32 (Z 5)).length = (C .u32 F.list).length := rfl
  go_wp2_with (refine wpList_store_R rfl 59 _ _ rfl _ (C .u32 F.list) rfl rfl hB5 iF hF (C_allL _ _) ?_; intro w7 hB8 hg8 hz8)
  exact result_row Tryd.results46 rfl hB8 Tryd.underlying59 rfl iF rfl ⟨by rw [HF.out], below_grown hL5 hg8 (by omega) hlt5⟩
theorem tells_any (s : S1.S5) (hs : s.ok) (n : Nat) (hn : n ≤ 20) (w : World) :
    Calls Tryd.prog 47 #[.agg (C .u32 s.list).toArray, .int .i64 (n : Int)] w fun e w' => ∃ v', e = .returned v' ∧ w'.ownsRow w.heap.size 5 1 v' n (C .u8 ((S1.out1 s).take n)) ∧ Below w.heap.size w w' := by
  have hR := (Row.new w 59 (C .u32 s.list)).slAll (by show 5 ≤ maxLen; decide)
  have hL := (Below.more (Below.refl w.heap.size w) (Nat.le_refl _) (.cells (C .u32 s.list).toArray 59)).1
  have hlo := lo_list hs
  have HE := Away.mk (out_tb s n hn)
  go_enter Tryd.func47, Tryd.ntmps47
  go_wp2_with fail
  refine (tell32_any _ s.list hlo n (show n ≤ 4 * 5 by omega) (show 5 ≤ 100 by decide) _ hR).mono ?_
  rintro _ w2 ⟨v2, rfl, ho, hb⟩
  rw [HE.out] at ho
  have ho := own_base ho hL.size
  have hb := hL.trans (hb.mono hL.size)
  go_wp2
  go_ret
  exact ⟨_, rfl, ho, hb⟩
end W1
namespace W2
theorem lo_list {s : S2.S8} (h : s.ok) : Lo 4294967296 s.list := by
  obtain ⟨h1, h2, h3, h4, h5, h6, h7, h8⟩ := h
  intro x hx
  simp only [S2.S8.list, List.mem_cons, List.not_mem_nil, or_false] at hx
  rcases hx with rfl | rfl | rfl | rfl | rfl | rfl | rfl | rfl <;> assumption
theorem out_all (s : S2.S8) : tb 4 s.list 32 = S2.out2 s := by
  simp [tb, List.range, List.range.loop, S2.out2, S1.out4, S2.S8.list]
theorem out_tb (s : S2.S8) (n : Nat) (hn : n ≤ 32) : tb 4 s.list n = (S2.out2 s).take n := by
  rw [← tb_take 4 s.list hn, out_all]
theorem take_any (s : S2.S8) (hs : s.ok) (v : Value) (b : List Nat) (hb : Lo 256 b) (hl : b.length = 64) (w : World) (hv : SlV w v (C .u8 b)) (hT : Tabs w) :
    Calls Tryd.prog 48 #[.agg (C .u32 s.list).toArray, v] w fun e w' => e = .returned (.agg (C .u32 (S2.blk2 s b).list).toArray) ∧ Below w.heap.size w w' := by
  obtain ⟨sa, sc, rfl, h1, h2⟩ := hv.shp hl
  have hA := ((Row.new w 65 (C .u32 s.list)).alloc (.cells (C .u32 (Z 8)).toArray 65)).alloc (.cells (C .u8 (Z 64)).toArray 47)
  have hB := (Row.newAt (w.alloc (.cells (C .u32 s.list).toArray 65)) (w.heap.size + 1) (by simp) 65 (C .u32 (Z 8))).alloc (.cells (C .u8 (Z 64)).toArray 47)
  have hC := Row.newAt ((w.alloc (.cells (C .u32 s.list).toArray 65)).alloc (.cells (C .u32 (Z 8)).toArray 65)) (w.heap.size + 1 + 1) (by simp) 47 (C .u8 (Z 64))
  have hL0 := Below.more (Below.refl w.heap.size w) (Nat.le_refl _) (.cells (C .u32 s.list).toArray 65)
  have hL1 := Below.more hL0.1 hL0.2 (.cells (C .u32 (Z 8)).toArray 65)
  have hL := (Below.more hL1.1 hL1.2 (.cells (C .u8 (Z 64)).toArray 47)).1
  clear hL0 hL1
  have hv3 := hv.below hL
  have hBn : (C .u8 (Z 64)).length = 64 := by rw [C_length, Z_length]
  have hcat : (C .u8 b).take 64 ++ (C .u8 (Z 64)).drop 64 = C .u8 b := by
    rw [List.drop_of_length_le (by rw [hBn]; exact Nat.le_refl _), List.append_nil, List.take_of_length_le (by rw [C_length, hl]; exact Nat.le_refl _)]
  have HQ := Away.mk hcat
  clear hcat
  have hib : (Tryd.prog.info? 47).map (·.size) = some (C .u8 b).toArray.size := by rw [C_size, hl]; exact S2.i64
  have his : (Tryd.prog.info? 65).map (·.size) = some (C .u32 s.list).toArray.size := S2.i8
  obtain ⟨F, hFe⟩ : ∃ F, S2.blk2 s b = F := ⟨_, rfl⟩
  have HF := Away.mk hFe
  clear hFe
  go_enter Tryd.func48, Tryd.ntmps48
  go_wp2_with (first | refine wpList_alloc_row rfl 65 rfl _ S2.z8 ?_ | refine wpList_alloc_row rfl 47 rfl _ S2.z64 ?_ | (refine wpList_copy_R rfl _ _ 22 rfl 5 Tryd.underlying22 S2.i1b (w.heap.size + 1 + 1) 64 64 64 (C .u8 (Z 64)) (C .u8 b) sa sc rfl rfl hC hv3 hBn (C_allL _ _) ?_; intro w4 hC4 hg4 hz4; rw [HQ.out] at hC4; have hA4 := hA.grown hg4 (by simp <;> omega); have hB4 := hB.grown hg4 (by simp <;> omega); have hL4 := below_grown hL hg4 (by omega) hC.lt; clear hA hB hC hL hg4 hz4 hv3) | refine wpList_load_row rfl 65 _ rfl _ rfl _ _ _ _ hA4 Tryd.underlying65 rfl his ?_ | refine wpList_load_row rfl 47 _ rfl _ rfl _ _ _ _ hC4 Tryd.underlying47 rfl hib ?_)
  refine (S2.block_any s hs b hb hl _ (hT.below hL4).a).mono ?_
  rintro _ w5 ⟨rfl, hb5⟩
  have hB5 := hB4.belowS hb5
  have hL5 := hL4.trans (hb5.mono hL4.size)
  have hlt5 := hB5.lt
  clear hA4 hB4 hC4 hL4 hb5
  rw [HF.out]
  have iF : (Tryd.prog.info? 65).map (·.size) = some (C .u32 F.list).length := S2.i8
  have hF : (C .u32 (Z 8)).length = (C .u32 F.list).length := rfl
  go_wp2_with (refine wpList_store_R rfl 65 _ _ rfl _ (C .u32 F.list) rfl rfl hB5 iF hF (C_allL _ _) ?_; intro w7 hB8 hg8 hz8)
  exact result_row Tryd.results48 rfl hB8 Tryd.underlying65 rfl iF rfl ⟨by rw [HF.out], below_grown hL5 hg8 (by omega) hlt5⟩
theorem tells_any (s : S2.S8) (hs : s.ok) (n : Nat) (hn : n ≤ 32) (w : World) :
    Calls Tryd.prog 49 #[.agg (C .u32 s.list).toArray, .int .i64 (n : Int)] w fun e w' => ∃ v', e = .returned v' ∧ w'.ownsRow w.heap.size 5 1 v' n (C .u8 ((S2.out2 s).take n)) ∧ Below w.heap.size w w' := by
  have hR := (Row.new w 65 (C .u32 s.list)).slAll (by show 8 ≤ maxLen; decide)
  have hL := (Below.more (Below.refl w.heap.size w) (Nat.le_refl _) (.cells (C .u32 s.list).toArray 65)).1
  have hlo := lo_list hs
  have HE := Away.mk (out_tb s n hn)
  go_enter Tryd.func49, Tryd.ntmps49
  go_wp2_with fail
  refine (tell32_any _ s.list hlo n (show n ≤ 4 * 8 by omega) (show 8 ≤ 100 by decide) _ hR).mono ?_
  rintro _ w2 ⟨v2, rfl, ho, hb⟩
  rw [HE.out] at ho
  have ho := own_base ho hL.size
  have hb := hL.trans (hb.mono hL.size)
  go_wp2
  go_ret
  exact ⟨_, rfl, ho, hb⟩
end W2
namespace W3
theorem lo_list {s : S3.S8} (h : s.ok) : Lo 18446744073709551616 s.list := by
  obtain ⟨h1, h2, h3, h4, h5, h6, h7, h8⟩ := h
  intro x hx
  simp only [S3.S8.list, List.mem_cons, List.not_mem_nil, or_false] at hx
  rcases hx with rfl | rfl | rfl | rfl | rfl | rfl | rfl | rfl <;> assumption
theorem out_all (s : S3.S8) : tb 8 s.list 64 = S3.out3 s := by
  rfl
theorem out_tb (s : S3.S8) (n : Nat) (hn : n ≤ 64) : tb 8 s.list n = (S3.out3 s).take n := by
  rw [← tb_take 8 s.list hn, out_all]
theorem take_any (s : S3.S8) (hs : s.ok) (v : Value) (b : List Nat) (hb : Lo 256 b) (hl : b.length = 128) (w : World) (hv : SlV w v (C .u8 b)) (hT : Tabs w) :
    Calls Tryd.prog 50 #[.agg (C .u64 s.list).toArray, v] w fun e w' => e = .returned (.agg (C .u64 (S3.blk3 s b).list).toArray) ∧ Below w.heap.size w w' := by
  obtain ⟨sa, sc, rfl, h1, h2⟩ := hv.shp hl
  have hA := ((Row.new w 69 (C .u64 s.list)).alloc (.cells (C .u64 (Z 8)).toArray 69)).alloc (.cells (C .u8 (Z 128)).toArray 92)
  have hB := (Row.newAt (w.alloc (.cells (C .u64 s.list).toArray 69)) (w.heap.size + 1) (by simp) 69 (C .u64 (Z 8))).alloc (.cells (C .u8 (Z 128)).toArray 92)
  have hC := Row.newAt ((w.alloc (.cells (C .u64 s.list).toArray 69)).alloc (.cells (C .u64 (Z 8)).toArray 69)) (w.heap.size + 1 + 1) (by simp) 92 (C .u8 (Z 128))
  have hL0 := Below.more (Below.refl w.heap.size w) (Nat.le_refl _) (.cells (C .u64 s.list).toArray 69)
  have hL1 := Below.more hL0.1 hL0.2 (.cells (C .u64 (Z 8)).toArray 69)
  have hL := (Below.more hL1.1 hL1.2 (.cells (C .u8 (Z 128)).toArray 92)).1
  clear hL0 hL1
  have hv3 := hv.below hL
  have hBn : (C .u8 (Z 128)).length = 128 := by rw [C_length, Z_length]
  have hcat : (C .u8 b).take 128 ++ (C .u8 (Z 128)).drop 128 = C .u8 b := by
    rw [List.drop_of_length_le (by rw [hBn]; exact Nat.le_refl _), List.append_nil, List.take_of_length_le (by rw [C_length, hl]; exact Nat.le_refl _)]
  have HQ := Away.mk hcat
  clear hcat
  have hib : (Tryd.prog.info? 92).map (·.size) = some (C .u8 b).toArray.size := by rw [C_size, hl]; exact S3.i128
  have his : (Tryd.prog.info? 69).map (·.size) = some (C .u64 s.list).toArray.size := S3.i8
  obtain ⟨F, hFe⟩ : ∃ F, S3.blk3 s b = F := ⟨_, rfl⟩
  have HF := Away.mk hFe
  clear hFe
  go_enter Tryd.func50, Tryd.ntmps50
  go_wp2_with (first | refine wpList_alloc_row rfl 69 rfl _ S3.z8 ?_ | refine wpList_alloc_row rfl 92 rfl _ S3.z128 ?_ | (refine wpList_copy_R rfl _ _ 22 rfl 5 Tryd.underlying22 S2.i1b (w.heap.size + 1 + 1) 128 128 128 (C .u8 (Z 128)) (C .u8 b) sa sc rfl rfl hC hv3 hBn (C_allL _ _) ?_; intro w4 hC4 hg4 hz4; rw [HQ.out] at hC4; have hA4 := hA.grown hg4 (by simp <;> omega); have hB4 := hB.grown hg4 (by simp <;> omega); have hL4 := below_grown hL hg4 (by omega) hC.lt; clear hA hB hC hL hg4 hz4 hv3) | refine wpList_load_row rfl 69 _ rfl _ rfl _ _ _ _ hA4 Tryd.underlying69 rfl his ?_ | refine wpList_load_row rfl 92 _ rfl _ rfl _ _ _ _ hC4 Tryd.underlying92 rfl hib ?_)
  refine (S3.block_any s hs b hb hl _ (hT.below hL4).b).mono ?_
  rintro _ w5 ⟨rfl, hb5⟩
  have hB5 := hB4.belowS hb5
  have hL5 := hL4.trans (hb5.mono hL4.size)
  have hlt5 := hB5.lt
  clear hA4 hB4 hC4 hL4 hb5
  rw [HF.out]
  have iF : (Tryd.prog.info? 69).map (·.size) = some (C .u64 F.list).length := S3.i8
  have hF : (C .u64 (Z 8)).length = (C .u64 F.list).length := rfl
  go_wp2_with (refine wpList_store_R rfl 69 _ _ rfl _ (C .u64 F.list) rfl rfl hB5 iF hF (C_allL _ _) ?_; intro w7 hB8 hg8 hz8)
  exact result_row Tryd.results50 rfl hB8 Tryd.underlying69 rfl iF rfl ⟨by rw [HF.out], below_grown hL5 hg8 (by omega) hlt5⟩
theorem tells_any (s : S3.S8) (hs : s.ok) (n : Nat) (hn : n ≤ 64) (w : World) :
    Calls Tryd.prog 51 #[.agg (C .u64 s.list).toArray, .int .i64 (n : Int)] w fun e w' => ∃ v', e = .returned v' ∧ w'.ownsRow w.heap.size 5 1 v' n (C .u8 ((S3.out3 s).take n)) ∧ Below w.heap.size w w' := by
  have hR := (Row.new w 69 (C .u64 s.list)).slAll (by show 8 ≤ maxLen; decide)
  have hL := (Below.more (Below.refl w.heap.size w) (Nat.le_refl _) (.cells (C .u64 s.list).toArray 69)).1
  have hlo := lo_list hs
  have HE := Away.mk (out_tb s n hn)
  go_enter Tryd.func51, Tryd.ntmps51
  go_wp2_with fail
  refine (tell64_any _ s.list hlo n (show n ≤ 8 * 8 by omega) (show 8 ≤ 100 by decide) _ hR).mono ?_
  rintro _ w2 ⟨v2, rfl, ho, hb⟩
  rw [HE.out] at ho
  have ho := own_base ho hL.size
  have hb := hL.trans (hb.mono hL.size)
  go_wp2
  go_ret
  exact ⟨_, rfl, ho, hb⟩
end W3
end Go.Proofs.YtmbaenodibfedaaDoor.S9
