/-
  Contracts of the second hash's Block and Start, over this seat's translation. Conditions: each as it says; the steps' numbers stand in the package's variable.
-/
import Derived.Test.YtmbaenodibfedaaDoorSh2C
namespace Go.Proofs.YtmbaenodibfedaaDoor.S2
open Go.RowKit
open S1 (or_lt32 and_lt32 xor_lt32 shr_lt32 mod_lt32 wd wd_lt be be8 zs1 pad1 out4 not32)
set_option linter.unusedVariables false
set_option maxRecDepth 10000

theorem start_any (b : Bool) (w : World) : Calls Tryd.prog 35 #[.bool b] w fun e w' => e = .returned (.agg (C .u32 (start2 b).list).toArray) ∧ Below w.heap.size w w' := by
  have hC := Row.new w 65 (C .u32 (Z 8))
  have hL := (Below.more (Below.refl w.heap.size w) (Nat.le_refl _) (.cells (C .u32 (Z 8)).toArray 65)).1
  cases b
  · go_enter Tryd.func35, Tryd.ntmps35
    go_wp2_with (first | refine wpList_alloc_row rfl 65 rfl _ z8 ?_ | (refine wpList_store_R rfl 65 _ _ rfl _ _ rfl rfl hC i8 rfl rfl ?_; intro w5 hR5 hg5 hz5))
    exact result_row Tryd.results35 rfl hR5 Tryd.underlying65 rfl i8 rfl ⟨rfl, below_grown hL hg5 (by omega) hC.lt⟩
  · go_enter Tryd.func35, Tryd.ntmps35
    go_wp2_with (first | refine wpList_alloc_row rfl 65 rfl _ z8 ?_ | (refine wpList_store_R rfl 65 _ _ rfl _ _ rfl rfl hC i8 rfl rfl ?_; intro w5 hR5 hg5 hz5))
    exact result_row Tryd.results35 rfl hR5 Tryd.underlying65 rfl i8 rfl ⟨rfl, below_grown hL hg5 (by omega) hC.lt⟩
theorem refstart_any (b : Bool) (w : World) : Calls Tryd.prog 42 #[.bool b] w fun e w' => e = .returned (.agg (C .u32 (start2 b).list).toArray) ∧ Below w.heap.size w w' := by
  have hC := Row.new w 65 (C .u32 (Z 8))
  have hL := (Below.more (Below.refl w.heap.size w) (Nat.le_refl _) (.cells (C .u32 (Z 8)).toArray 65)).1
  cases b
  · go_enter Tryd.func42, Tryd.ntmps42
    go_wp2_with (first | refine wpList_alloc_row rfl 65 rfl _ z8 ?_ | (refine wpList_store_R rfl 65 _ _ rfl _ _ rfl rfl hC i8 rfl rfl ?_; intro w5 hR5 hg5 hz5))
    exact result_row Tryd.results42 rfl hR5 Tryd.underlying65 rfl i8 rfl ⟨rfl, below_grown hL hg5 (by omega) hC.lt⟩
  · go_enter Tryd.func42, Tryd.ntmps42
    go_wp2_with (first | refine wpList_alloc_row rfl 65 rfl _ z8 ?_ | (refine wpList_store_R rfl 65 _ _ rfl _ _ rfl rfl hC i8 rfl rfl ?_; intro w5 hR5 hg5 hz5))
    exact result_row Tryd.results42 rfl hR5 Tryd.underlying65 rfl i8 rfl ⟨rfl, below_grown hL hg5 (by omega) hC.lt⟩

theorem block_any (s : S8) (hs : s.ok) (b : List Nat) (hb : Lo 256 b) (hl : b.length = 64) (w : World) (hT : Tab w) :
    Calls Tryd.prog 54 #[.agg (C .u32 s.list).toArray, .agg (C .u8 b).toArray] w fun e w' => e = .returned (.agg (C .u32 (blk2 s b).list).toArray) ∧ Below w.heap.size w w' := by
  have hA := ((Row.new w 65 (C .u32 s.list)).alloc (.cells (C .u8 b).toArray 47)).alloc (.cells (C .u32 (Z 8)).toArray 65)
  have hB := (Row.newAt (w.alloc (.cells (C .u32 s.list).toArray 65)) (w.heap.size + 1) (by simp) 47 (C .u8 b)).alloc (.cells (C .u32 (Z 8)).toArray 65)
  have hC := Row.newAt ((w.alloc (.cells (C .u32 s.list).toArray 65)).alloc (.cells (C .u8 b).toArray 47)) (w.heap.size + 1 + 1) (by simp) 65 (C .u32 (Z 8))
  have hL0 := Below.more (Below.refl w.heap.size w) (Nat.le_refl _) (.cells (C .u32 s.list).toArray 65)
  have hL1 := Below.more hL0.1 hL0.2 (.cells (C .u8 b).toArray 47)
  have hL := (Below.more hL1.1 hL1.2 (.cells (C .u32 (Z 8)).toArray 65)).1
  clear hL0 hL1
  go_enter Tryd.func54, Tryd.ntmps54
  go_wp2_with (refine wpList_alloc_row rfl 65 rfl _ z8 ?_)
  generalize hw3 : ((w.alloc (.cells (C .u32 s.list).toArray 65)).alloc (.cells (C .u8 b).toArray 47)).alloc (.cells (C .u32 (Z 8)).toArray 65) = w3 at *
  clear hw3
  have HB : Away (blk2 s b = add2 s (stps2 (sch2 b 64) s 64)) := ⟨rfl⟩
  have hSl := sch2_lo hb 64
  have hSn := sch2_length b 64
  generalize hE : sch2 b 64 = S at *
  have HE := Away.mk hE
  obtain ⟨T, hT2⟩ : ∃ T, T = add2 s (stps2 S s 64) := ⟨_, rfl⟩
  have HT := Away.mk hT2
  clear hE hT2
  have hl64 : (Tryd.prog.info? 47).map (·.size) = some (C .u8 b).length := by rw [C_length, hl]; exact i64
  simp only [Act.put, List.setIfInBounds_toArray, List.set_cons_zero, List.set_cons_succ, alloc_size]
  refine wp_region_noPanic ?_
  refine wp_region_held_drew (S := fun w' => Row w' w.heap.size 65 (C .u32 s.list) ∧ Row w' (w.heap.size + 1) 47 (C .u8 b)) (by kernel_rfl) (⟨hA.drew, hB.drew⟩) (fun hHeld => ?_)
  refine wpAnyH_takeL (i := 0) (v := (.agg (C .u32 s.list).toArray)) rfl (by kernel_rfl) (by kernel_rfl) (by kernel_rfl) (fun _ _ _ h => h) (by rfl) ?h0 (by assumption) ?_
  case h0 => intro w hSw; exact exec_load_R 65 _ rfl rfl hSw.1 Tryd.underlying65 i8
  simp only [Act.put, List.setIfInBounds_toArray, List.set_cons_zero, List.set_cons_succ]
  refine wpAnyH_takeL (i := 1) (v := (.agg (C .u8 b).toArray)) rfl (by kernel_rfl) (by kernel_rfl) (by kernel_rfl) (fun _ _ _ h => h) (by rfl) ?h1 (by assumption) ?_
  case h1 => intro w hSw; exact exec_load_R 47 _ rfl rfl hSw.2 Tryd.underlying47 hl64
  simp only [Act.put, List.setIfInBounds_toArray, List.set_cons_zero, List.set_cons_succ]
  refine allReadyH_oneL (i := 2) (by kernel_rfl) rfl (by rfl) (fun K hK => ?_)
  go_simp
  refine (words_any b hb hl _).mono ?_
  rintro _ w5 ⟨rfl, hb5⟩
  rw [HE.out]
  have hA5 := hA.drew.belowS hb5
  have hB5 := hB.drew.belowS hb5
  have hC5 := hC.drew.belowS hb5
  have hL5 := hL.drew.trans (hb5.mono hL.size)
  clear hA hB hC hL hb5
  refine hK.out _ _ (⟨hA5, hB5⟩) (fun hHeld => ?_)
  clear hK K
  refine allReadyH_oneL (i := 3) (by kernel_rfl) rfl (by rfl) (fun K hK => ?_)
  go_simp
  refine (stepped_any s hs S hSl hSn _ (hT.below hL5)).mono ?_
  rintro _ w6 ⟨rfl, hb6⟩
  rw [← HT.out]
  have hA6 := hA5.belowS hb6
  have hB6 := hB5.belowS hb6
  have hC6 := hC5.belowS hb6
  have hL6 := hL5.trans (hb6.mono hL5.size)
  clear hA5 hB5 hC5 hL5 hb6
  refine hK.out _ _ (⟨hA6, hB6⟩) (fun hHeld => ?_)
  clear hK K
  refine allReadyH_oneL (i := 4) (by kernel_rfl) rfl (by rfl) (fun K hK => ?_)
  refine wp_store_R 65 _ _ rfl _ (C .u32 T.list) rfl rfl hC6 i8 rfl (C_allL _ _) ?_
  intro w7 hC7 hg7 hz7
  have hA7 := hA6.grown hg7 (by simp; omega)
  have hB7 := hB6.grown hg7 (by simp)
  have hL7 := below_grown hL6 hg7 (by omega) hC6.lt
  refine hK.out _ _ (⟨hA7, hB7⟩) (fun hHeld => ?_)
  clear hK K
  refine wpAnyH_done (by kernel_rfl) ?_ _
  refine NoPanic.normal ?_
  go_wp2
  exact result_row Tryd.results54 rfl hC7 Tryd.underlying65 rfl i8 rfl ⟨by rw [HT.out, HB.out], hL7⟩
end Go.Proofs.YtmbaenodibfedaaDoor.S2
