/-
  Contracts of the document's Prime, Below and Reduce, over this seat's translation. Conditions: each as it says.
-/
import Derived.Test.YtgakpgcjninbgaaDoorFldF
import Derived.Test.YtgakpgcjninbgaaDoorFldE
namespace Go.Proofs.YtgakpgcjninbgaaDoor.F
open Go.RowKit
set_option linter.unusedVariables false
set_option maxRecDepth 10000

theorem bP : Tryd.prog.built 24 [(0, .int .u64 18446744073709551597), (1, .int .u64 18446744073709551615), (2, .int .u64 18446744073709551615), (3, .int .u64 9223372036854775807)] = some (C .u64 (wds P)).toArray := by kernel_rfl
theorem prime_any (w : World) : Calls Tryd.prog 40 #[] w fun e w' => e = .returned (el P) ∧ Below w.heap.size w w' := by
  have r1 := Row.new w 24 (C .u64 (Z 4))
  have hL := (Below.more (Below.refl w.heap.size w) (Nat.le_refl _) (.cells (C .u64 (Z 4)).toArray 24)).1
  go_enter Tryd.func40, Tryd.ntmps40
  go_wp2_with (first | refine wpList_alloc_row rfl 24 rfl _ z4 ?_ | refine wpList_build_C rfl 24 _ rfl _ bP ?_ | (refine wpList_store_R rfl 24 _ _ rfl _ (C .u64 (wds P)) rfl rfl r1 (ie4 _) (ze4 _) (C_allL _ _) ?_; intro w5 hR5 hg5 hz5))
  exact result_row Tryd.results40 rfl hR5 Tryd.underlying24 rfl (ie4 _) rfl ⟨rfl, below_grown hL hg5 (by omega) r1.lt⟩

set_option maxHeartbeats 1000000 in
theorem below_any (A M : Nat) (hA : A < 115792089237316195423570985008687907853269984665640564039457584007913129639936) (hM : M < 115792089237316195423570985008687907853269984665640564039457584007913129639936) (h0 : 0 < M) (w : World) : Calls Tryd.prog 39 #[el A, el M] w fun e w' => e = .returned (el (A % M)) ∧ Below w.heap.size w w' := by
  obtain ⟨w4, h4, h⟩ := H2.begin w (C .u64 (wds A)) (C .u64 (wds M)) (C .u64 (Z 4))
  unfold el
  go_enter Tryd.func39, Tryd.ntmps39
  go_upto_region 1 with (refine wpList_alloc_row rfl 24 rfl _ z4 ?_)
  try simp only [Act.put, List.setIfInBounds_toArray, List.set_cons_zero, List.set_cons_succ, alloc_size, h4]
  clear h4
  go_loopg [5] A (fun k v wr => k < 115792089237316195423570985008687907853269984665640564039457584007913129639936 ∧ Away (k % M = A % M) ∧ H2 w.heap.size w wr (C .u64 (wds k)) (C .u64 (wds M)) (C .u64 (Z 4)))
  case atStart => exact ⟨hA, ⟨rfl⟩, h⟩
  case round =>
    clear h
    obtain ⟨hX, HX, h⟩ := hrel
    have hm := refless_any gk M hX hM
    obtain ⟨D, hD⟩ : ∃ D, (gk + 115792089237316195423570985008687907853269984665640564039457584007913129639936 - M) % 115792089237316195423570985008687907853269984665640564039457584007913129639936 = D := ⟨_, rfl⟩
    rw [hD] at hm
    have hDl : D < 115792089237316195423570985008687907853269984665640564039457584007913129639936 := by rw [← hD]; exact Nat.mod_lt _ (by decide)
    have hDv : Away (¬ gk < M → D = gk - M) := ⟨fun h => by omega⟩
    clear hD
    go_wp2_with (first | refine wpList_load_row rfl 24 _ rfl _ rfl _ _ _ _ h.r1 Tryd.underlying24 rfl (ie4 _) ?_ | refine wpList_load_row rfl 24 _ rfl _ rfl _ _ _ _ h.r2 Tryd.underlying24 rfl (ie4 _) ?_)
    refine (hm _).mono ?_
    rintro _ wn ⟨rfl, hb⟩
    replace h := h.below hb
    clear hb hm
    obtain ⟨g3, hg3, q, hq⟩ := new_row h
    replace h := h.alloc (.cells (C .u64 (Z 4)).toArray 24)
    by_cases hlt : gk < M
    · rw [decide_eq_true hlt]
      go_wp2_with (first | refine wpList_alloc_row rfl 24 rfl _ z4 ?_ | (refine wpList_store_R rfl 24 _ _ rfl _ (C .u64 (wds D)) (by rw [← hg3]; rfl) rfl q (ie4 _) (ze4 _) (C_allL _ _) ?_; intro w5 r5 hg5 hz5; have h5 := h.grown hg5 hq.1) | refine wpList_load_row rfl 24 _ rfl _ rfl _ _ _ _ h5.r1 Tryd.underlying24 rfl (ie4 _) ?_ | (refine wpList_store_R rfl 24 _ _ rfl _ (C .u64 (wds gk)) rfl rfl h5.r3 (ie4 _) (ze4 _) (C_allL _ _) ?_; intro w6 r6 hg6 hz6))
      exact result_row Tryd.results39 rfl r6 Tryd.underlying24 rfl (ie4 _) rfl ⟨by rw [← HX.out, Nat.mod_eq_of_lt hlt], below_grown h5.bel hg6 (by omega) h5.r3.lt⟩
    · rw [decide_eq_false hlt]
      go_wp2_with (first | refine wpList_alloc_row rfl 24 rfl _ z4 ?_ | (refine wpList_store_R rfl 24 _ _ rfl _ (C .u64 (wds D)) (by rw [← hg3]; rfl) rfl q (ie4 _) (ze4 _) (C_allL _ _) ?_; intro w5 r5 hg5 hz5; have h5 := h.grown hg5 hq.1) | refine wpList_load_row rfl 24 _ rfl _ rfl _ _ _ _ r5 Tryd.underlying24 rfl (ie4 _) ?_ | (refine wpList_store_R rfl 24 _ _ rfl _ (C .u64 (wds D)) rfl rfl h5.r1 (ie4 _) (ee4 _ _) (C_allL _ _) ?_; intro w6 r6 hg6 hz6))
      have h6 : H2 w.heap.size w w6 (C .u64 (wds D)) (C .u64 (wds M)) (C .u64 (Z 4)) := ⟨r6, h5.r2.grown hg6 (by simp), h5.r3.grown hg6 (by simp; omega), below_grown h5.bel hg6 (Nat.le_refl _) h5.r1.lt, by have := h5.lt; omega⟩
      have hDe := hDv.out hlt
      clear h h5 r6 hg6 hg5 r5 q
      go_roundg D
      case measure => omega
      case rel => exact ⟨hDl, ⟨by rw [hDe, ← HX.out]; exact (Nat.mod_eq_sub_mod (by omega)).symm⟩, h6⟩
theorem refreduce_any (A : Nat) (hA : A < 115792089237316195423570985008687907853269984665640564039457584007913129639936) (w : World) : Calls Tryd.prog 12 #[el A] w fun e w' => e = .returned (el (A % P)) ∧ Below w.heap.size w w' := by
  obtain ⟨w4, h4, h⟩ := H1.begin w (C .u64 (wds A)) (C .u64 (Z 4))
  unfold el
  go_enter Tryd.func12, Tryd.ntmps12
  go_upto_region 1 with (refine wpList_alloc_row rfl 24 rfl _ z4 ?_)
  try simp only [Act.put, List.setIfInBounds_toArray, List.set_cons_zero, List.set_cons_succ, alloc_size, h4]
  clear h4
  replace h := h.drew
  refine wp_region_noPanic ?_
  refine wp_region_held_drew (S := fun w' => Row w' w.heap.size 24 (C .u64 (wds A))) (by kernel_rfl) h.r1 (fun hHeld => ?_)
  refine wpAnyH_takeL (i := 0) (v := (.agg (C .u64 (wds A)).toArray)) rfl (by kernel_rfl) (by kernel_rfl) (by kernel_rfl) (fun _ _ _ h => h) (by rfl) ?h0 (by assumption) ?_
  case h0 => intro w hSw; exact exec_load_R 24 _ rfl rfl hSw Tryd.underlying24 (ie4 A)
  simp only [Act.put, List.setIfInBounds_toArray, List.set_cons_zero, List.set_cons_succ]
  refine allReadyH_oneL (i := 1) (by kernel_rfl) rfl (by rfl) (fun K hK => ?_)
  go_simp
  refine (prime_any _).mono ?_
  rintro _ wn ⟨rfl, hb⟩
  replace h := h.below hb
  refine hK.out _ _ h.r1 (fun hHeld => ?_)
  clear hK K hb
  refine allReadyH_oneL (i := 2) (by kernel_rfl) rfl (by rfl) (fun K hK => ?_)
  go_simp
  refine (below_any A P hA P_lt P_pos _).mono ?_
  rintro _ wn2 ⟨rfl, hb⟩
  replace h := h.below hb
  refine hK.out _ _ h.r1 (fun hHeld => ?_)
  clear hK K hb
  refine allReadyH_oneL (i := 3) (by kernel_rfl) rfl (by rfl) (fun K hK => ?_)
  refine wp_store_R 24 _ _ rfl _ (C .u64 (wds (A % P))) rfl rfl h.r3 (ie4 _) (ze4 _) (C_allL _ _) ?_
  intro w5 r5 hg5 hz5
  refine hK.out _ _ (h.r1.grown hg5 (by simp)) (fun hHeld => ?_)
  clear hK K
  refine wpAnyH_done (by kernel_rfl) ?_ _
  refine NoPanic.normal ?_
  go_wp2
  exact result_row Tryd.results12 rfl r5 Tryd.underlying24 rfl (ie4 _) rfl ⟨rfl, below_grown h.bel hg5 (by omega) h.r3.lt⟩
end Go.Proofs.YtgakpgcjninbgaaDoor.F
