/-
  Contracts of the first hash's steps and of its Block and Start, over this seat's translation. Conditions: each as it says.
-/
import Derived.Test.YtmbaenodibfedaaDoorShaB
namespace Go.Proofs.YtmbaenodibfedaaDoor.S1
open Go.RowKit
set_option linter.unusedVariables false
set_option maxRecDepth 10000

theorem five_cells {w : World} {g : Nat} {e : TypeId} {s : S5} (h : Row w g e (C .u32 s.list)) :
    w.cell? ⟨g, 0, none⟩ = some (.int .u32 (s.a : Int)) ∧ w.cell? ⟨g, 1, none⟩ = some (.int .u32 (s.b : Int)) ∧ w.cell? ⟨g, 2, none⟩ = some (.int .u32 (s.c : Int)) ∧ w.cell? ⟨g, 3, none⟩ = some (.int .u32 (s.d : Int)) ∧ w.cell? ⟨g, 4, none⟩ = some (.int .u32 (s.e : Int)) := by
  refine ⟨?_, ?_, ?_, ?_, ?_⟩ <;> rw [h.cell] <;> rfl
theorem five_length (s : S5) : (C .u32 s.list).length = 5 := rfl

set_option maxHeartbeats 400000 in
theorem stepped_any (s : S5) (hs : s.ok) (W : List Nat) (hW : Lo 4294967296 W) (hl : W.length = 80) (w : World) :
    Calls Tryd.prog 52 #[.agg (C .u32 s.list).toArray, .agg (C .u32 W).toArray] w fun e w' => e = .returned (.agg (C .u32 (add1 s (stps1 W s 80)).list).toArray) ∧ Below w.heap.size w w' := by
  have hi80 : (Tryd.prog.info? 88).map (·.size) = some (C .u32 W).toArray.size := by rw [C_size, hl]; exact i80
  have hA := ((Row.new w 59 (C .u32 s.list)).alloc (.cells (C .u32 W).toArray 88)).alloc (.cells (C .u32 (Z 5)).toArray 59)
  have hB := (Row.newAt (w.alloc (.cells (C .u32 s.list).toArray 59)) (w.heap.size + 1) (by simp) 88 (C .u32 W)).alloc (.cells (C .u32 (Z 5)).toArray 59)
  have hC := Row.newAt ((w.alloc (.cells (C .u32 s.list).toArray 59)).alloc (.cells (C .u32 W).toArray 88)) (w.heap.size + 1 + 1) (by simp) 59 (C .u32 (Z 5))
  have hL0 := Below.more (Below.refl w.heap.size w) (Nat.le_refl _) (.cells (C .u32 s.list).toArray 59)
  have hL1 := Below.more hL0.1 hL0.2 (.cells (C .u32 W).toArray 88)
  have hL := (Below.more hL1.1 hL1.2 (.cells (C .u32 (Z 5)).toArray 59)).1
  clear hL0 hL1
  go_enter Tryd.func52, Tryd.ntmps52
  go_wp2_with (refine wpList_alloc_row rfl 59 rfl _ z5 ?_)
  generalize ((w.alloc (.cells (C .u32 s.list).toArray 59)).alloc (.cells (C .u32 W).toArray 88)).alloc (.cells (C .u32 (Z 5)).toArray 59) = w3 at *
  obtain ⟨c0, c1, c2, c3, c4⟩ := five_cells hA
  go_quiet (fail)
  go_wp2_with (refine wpList_load_row rfl 88 _ rfl _ rfl _ _ _ _ hB.drew Tryd.underlying88 rfl hi80 ?_)
  obtain ⟨w4, hw4, hA4, hC4, hL4⟩ : ∃ w4 : World, w3.drewN nq = w4 ∧ Row w4 w.heap.size 59 (C .u32 s.list) ∧ Row w4 (w.heap.size + 1 + 1) 59 (C .u32 (Z 5)) ∧ Below w.heap.size w w4 :=
    ⟨_, rfl, hA, hC, ⟨hL.os, hL.tape, hL.output, hL.size, hL.block⟩⟩
  rw [hw4]
  clear hw4 hA hB hC hL c0 c1 c2 c3 c4
  go_loop [5, 6, 7, 8, 9, 24] (fun va vb vc vd ve i => ∃ k : Nat, k ≤ 80 ∧ i = .int .i64 k ∧ va = .int .u32 ((stps1 W s k).a : Nat) ∧ vb = .int .u32 ((stps1 W s k).b : Nat) ∧ vc = .int .u32 ((stps1 W s k).c : Nat) ∧ vd = .int .u32 ((stps1 W s k).d : Nat) ∧ ve = .int .u32 ((stps1 W s k).e : Nat)) (fun _ _ _ _ _ i => 80 - (intOf i).toNat)
  case atStart => exact ⟨0, Nat.zero_le _, rfl, rfl, rfl, rfl, rfl, rfl⟩
  case round =>
    obtain ⟨k, hk, rfl, rfl, rfl, rfl, rfl, rfl⟩ := hrel
    have HT : Away (stps1 W s (k + 1) = stp1 k (W.getD k 0) (stps1 W s k)) := ⟨rfl⟩
    obtain ⟨q1, q2, q3, q4, q5⟩ := stps1_ok (ws := W) hs k
    by_cases hlt : k < 80
    · have hix := fun w => run_index_C (P := Tryd.prog) w (q := .u32) Tryd.underlying88 (by kernel_rfl) i1w W k hlt hl
      have hx := hW.getD (by decide) k
      generalize W.getD k 0 = x at *
      generalize stps1 W s k = S at *
      obtain ⟨a, b, c, d, e⟩ := S
      simp only at *
      go_wp2_with fail
      refine (rotl_any a 5 q1 (by decide) _).mono ?_
      rintro _ w' ⟨rfl, rfl⟩
      go_wp2_with fail
      refine (mixed_any k b c d q2 q3 q4 hlt _).mono ?_
      rintro _ w' ⟨rfl, rfl⟩
      generalize hm : (F1 k b c d + K1 k) % 4294967296 = m
      generalize hr : rot 5 a = r
      have HM := Away.mk hm
      have HR := Away.mk hr
      clear hm hr
      go_wp2_with fail
      refine (rotl_any b 30 q2 (by decide) _).mono ?_
      rintro _ w' ⟨rfl, rfl⟩
      go_wp2
      go_round
      case rel =>
        refine ⟨k + 1, by omega, by go_num, ?_, ?_, ?_, ?_, ?_⟩ <;> rw [HT.out]
        · simp only [stp1]
          rw [HR.out, ← HM.out]
          congr 1
          omega
        all_goals rfl
      case measure => simp [intOf]; omega
    · obtain rfl : k = 80 := by omega
      obtain ⟨c0, c1, c2, c3, c4⟩ := five_cells hA4
      generalize hS : stps1 W s 80 = S at *
      have HS := Away.mk hS
      clear hS HT hi80
      obtain ⟨a, b, c, d, e⟩ := S
      simp only at *
      have hcs : Away (C .u32 (add1 s ⟨a, b, c, d, e⟩).list = [.int .u32 (((s.a : Int) + a) % 4294967296), .int .u32 (((s.b : Int) + b) % 4294967296), .int .u32 (((s.c : Int) + c) % 4294967296), .int .u32 (((s.d : Int) + d) % 4294967296), .int .u32 (((s.e : Int) + e) % 4294967296)]) := ⟨by simp [C, S5.list, add1]⟩
      have hlt4 := hC4.lt
      go_wp2_with (refine wpList_store_R rfl 59 _ _ rfl _ _ rfl rfl hC4 i5 rfl rfl ?_; intro w5 hR5 hg5 hz5)
      exact result_row Tryd.results52 rfl hR5 Tryd.underlying59 rfl i5 rfl ⟨by rw [HS.out, hcs.out], below_grown hL4 hg5 (by omega) hlt4⟩

theorem start_any (w : World) : Calls Tryd.prog 29 #[] w fun e w' => e = .returned (.agg (C .u32 start1.list).toArray) ∧ Below w.heap.size w w' := by
  have hC := Row.new w 59 (C .u32 (Z 5))
  have hL := (Below.more (Below.refl w.heap.size w) (Nat.le_refl _) (.cells (C .u32 (Z 5)).toArray 59)).1
  go_enter Tryd.func29, Tryd.ntmps29
  go_wp2_with (first | refine wpList_alloc_row rfl 59 rfl _ z5 ?_ | (refine wpList_store_R rfl 59 _ _ rfl _ _ rfl rfl hC i5 rfl rfl ?_; intro w5 hR5 hg5 hz5))
  exact result_row Tryd.results29 rfl hR5 Tryd.underlying59 rfl i5 rfl ⟨rfl, below_grown hL hg5 (by omega) hC.lt⟩
theorem refstart_any (w : World) : Calls Tryd.prog 39 #[] w fun e w' => e = .returned (.agg (C .u32 start1.list).toArray) ∧ Below w.heap.size w w' := by
  have hC := Row.new w 59 (C .u32 (Z 5))
  have hL := (Below.more (Below.refl w.heap.size w) (Nat.le_refl _) (.cells (C .u32 (Z 5)).toArray 59)).1
  go_enter Tryd.func39, Tryd.ntmps39
  go_wp2_with (first | refine wpList_alloc_row rfl 59 rfl _ z5 ?_ | (refine wpList_store_R rfl 59 _ _ rfl _ _ rfl rfl hC i5 rfl rfl ?_; intro w5 hR5 hg5 hz5))
  exact result_row Tryd.results39 rfl hR5 Tryd.underlying59 rfl i5 rfl ⟨rfl, below_grown hL hg5 (by omega) hC.lt⟩

theorem block_any (s : S5) (hs : s.ok) (b : List Nat) (hb : Lo 256 b) (hl : b.length = 64) (w : World) :
    Calls Tryd.prog 30 #[.agg (C .u32 s.list).toArray, .agg (C .u8 b).toArray] w fun e w' => e = .returned (.agg (C .u32 (blk1 s b).list).toArray) ∧ Below w.heap.size w w' := by
  have hA := ((Row.new w 59 (C .u32 s.list)).alloc (.cells (C .u8 b).toArray 47)).alloc (.cells (C .u32 (Z 5)).toArray 59)
  have hB := (Row.newAt (w.alloc (.cells (C .u32 s.list).toArray 59)) (w.heap.size + 1) (by simp) 47 (C .u8 b)).alloc (.cells (C .u32 (Z 5)).toArray 59)
  have hC := Row.newAt ((w.alloc (.cells (C .u32 s.list).toArray 59)).alloc (.cells (C .u8 b).toArray 47)) (w.heap.size + 1 + 1) (by simp) 59 (C .u32 (Z 5))
  have hL0 := Below.more (Below.refl w.heap.size w) (Nat.le_refl _) (.cells (C .u32 s.list).toArray 59)
  have hL1 := Below.more hL0.1 hL0.2 (.cells (C .u8 b).toArray 47)
  have hL := (Below.more hL1.1 hL1.2 (.cells (C .u32 (Z 5)).toArray 59)).1
  clear hL0 hL1
  go_enter Tryd.func30, Tryd.ntmps30
  go_wp2_with (refine wpList_alloc_row rfl 59 rfl _ z5 ?_)
  generalize hw3 : ((w.alloc (.cells (C .u32 s.list).toArray 59)).alloc (.cells (C .u8 b).toArray 47)).alloc (.cells (C .u32 (Z 5)).toArray 59) = w3 at *
  clear hw3
  have HB : Away (blk1 s b = add1 s (stps1 (sch1 b 80) s 80)) := ⟨rfl⟩
  have hSl := sch1_lo hb 80
  have hSn := sch1_length b 80
  generalize hE : sch1 b 80 = S at *
  have HE := Away.mk hE
  obtain ⟨T, hT⟩ : ∃ T, T = add1 s (stps1 S s 80) := ⟨_, rfl⟩
  have HT := Away.mk hT
  clear hE hT
  have hl64 : (Tryd.prog.info? 47).map (·.size) = some (C .u8 b).length := by rw [C_length, hl]; exact i64
  simp only [Act.put, List.setIfInBounds_toArray, List.set_cons_zero, List.set_cons_succ, alloc_size]
  refine wp_region_noPanic ?_
  refine wp_region_held_drew (S := fun w' => Row w' w.heap.size 59 (C .u32 s.list) ∧ Row w' (w.heap.size + 1) 47 (C .u8 b)) (by kernel_rfl) (⟨hA.drew, hB.drew⟩) (fun hHeld => ?_)
  refine wpAnyH_takeL (i := 0) (v := (.agg (C .u32 s.list).toArray)) rfl (by kernel_rfl) (by kernel_rfl) (by kernel_rfl) (fun _ _ _ h => h) (by rfl) ?h0 (by assumption) ?_
  case h0 => intro w hSw; exact exec_load_R 59 _ rfl rfl hSw.1 Tryd.underlying59 i5
  simp only [Act.put, List.setIfInBounds_toArray, List.set_cons_zero, List.set_cons_succ]
  refine wpAnyH_takeL (i := 1) (v := (.agg (C .u8 b).toArray)) rfl (by kernel_rfl) (by kernel_rfl) (by kernel_rfl) (fun _ _ _ h => h) (by rfl) ?h1 (by assumption) ?_
  case h1 => intro w hSw; exact exec_load_R 47 _ rfl rfl hSw.2 Tryd.underlying47 hl64
  simp only [Act.put, List.setIfInBounds_toArray, List.set_cons_zero, List.set_cons_succ]
  refine allReadyH_oneL (i := 2) (by kernel_rfl) rfl (by rfl) (fun K hK => ?_)
  go_simp
  refine (words_any b hb hl _).mono ?_
  rintro _ w5 ⟨rfl, hb5⟩
  rw [HE.out]
  have hA5 := hA.drew.belowS hb5
  have hB5 := hB.drew.belowS hb5
  have hC5 := hC.drew.belowS hb5
  have hL5 := hL.drew.trans (hb5.mono hL.size)
  clear hA hB hC hL hb5
  refine hK.out _ _ (⟨hA5, hB5⟩) (fun hHeld => ?_)
  clear hK K
  refine allReadyH_oneL (i := 3) (by kernel_rfl) rfl (by rfl) (fun K hK => ?_)
  go_simp
  refine (stepped_any s hs S hSl hSn _).mono ?_
  rintro _ w6 ⟨rfl, hb6⟩
  rw [← HT.out]
  have hA6 := hA5.belowS hb6
  have hB6 := hB5.belowS hb6
  have hC6 := hC5.belowS hb6
  have hL6 := hL5.trans (hb6.mono hL5.size)
  clear hA5 hB5 hC5 hL5 hb6
  refine hK.out _ _ (⟨hA6, hB6⟩) (fun hHeld => ?_)
  clear hK K
  refine allReadyH_oneL (i := 4) (by kernel_rfl) rfl (by rfl) (fun K hK => ?_)
  refine wp_store_R 59 _ _ rfl _ (C .u32 T.list) rfl rfl hC6 i5 rfl (C_allL _ _) ?_
  intro w7 hC7 hg7 hz7
  have hA7 := hA6.grown hg7 (by simp; omega)
  have hB7 := hB6.grown hg7 (by simp)
  have hL7 := below_grown hL6 hg7 (by omega) hC6.lt
  refine hK.out _ _ (⟨hA7, hB7⟩) (fun hHeld => ?_)
  clear hK K
  refine wpAnyH_done (by kernel_rfl) ?_ _
  refine NoPanic.normal ?_
  go_wp2
  exact result_row Tryd.results30 rfl hC7 Tryd.underlying59 rfl i5 rfl ⟨by rw [HT.out, HB.out], hL7⟩
end Go.Proofs.YtmbaenodibfedaaDoor.S1
