/-
  Contracts of the document's Root, over this seat's translation. Conditions: each as it says.
-/
import Derived.Test.YtgakpgcjninbgaaDoorFldR
namespace Go.Proofs.YtgakpgcjninbgaaDoor.F
open Go.RowKit
set_option linter.unusedVariables false
set_option maxRecDepth 10000

theorem frefsub_el (A B : Nat) (hA : A < 115792089237316195423570985008687907853269984665640564039457584007913129639936) (hB : B < 115792089237316195423570985008687907853269984665640564039457584007913129639936) (w : World) : Calls Tryd.prog 16 #[.agg (C .u64 (wds A)).toArray, .agg (C .u64 (wds B)).toArray] w fun e w' => e = .returned (.agg (C .u64 (wds ((A % P + (P - B % P)) % P))).toArray) ∧ Below w.heap.size w w' := frefsub_any A B hA hB w
theorem bQ8 : Tryd.prog.built 24 [(0, .int .u64 18446744073709551614), (1, .int .u64 18446744073709551615), (2, .int .u64 18446744073709551615), (3, .int .u64 1152921504606846975)] = some (C .u64 (wds Q8)).toArray := by kernel_rfl
theorem bQ4 : Tryd.prog.built 24 [(0, .int .u64 18446744073709551611), (1, .int .u64 18446744073709551615), (2, .int .u64 18446744073709551615), (3, .int .u64 2305843009213693951)] = some (C .u64 (wds Q4)).toArray := by kernel_rfl
theorem Q4_lt : Q4 < 115792089237316195423570985008687907853269984665640564039457584007913129639936 := by decide +kernel
set_option maxHeartbeats 8000000 in
theorem frefroot_any (A : Nat) (hA : A < 115792089237316195423570985008687907853269984665640564039457584007913129639936) (w : World) : Calls Tryd.prog 21 #[el A] w fun e w' => e = .returned (.tuple #[el (rt A).1, .bool (rt A).2]) ∧ Below w.heap.size w w' := by
  obtain ⟨w4, h4, h⟩ := H1.begin w (C .u64 (wds A)) (C .u64 (Z 4))
  obtain ⟨H1, H2, H3⟩ := rt_prog A
  rw [show (A % P) ^ Q8 % P = A ^ Q8 % P from (Nat.pow_mod A Q8 P).symm] at H1 H2 H3
  have hal := mod_lt_T A
  have hre := refreduce_el A hA
  obtain ⟨a, ha⟩ : ∃ a, A % P = a := ⟨_, rfl⟩
  rw [ha] at H1 H2 H3 hal hre
  clear ha
  have hpw := frefpow_el A Q8 hA Q8_lt
  have hp2 := frefpow_el 2 Q4 (by decide) Q4_lt
  rw [im_pow] at hp2
  have hrp := mod_lt_P (A ^ Q8)
  have hrl := mod_lt_T (A ^ Q8)
  obtain ⟨r, hr⟩ : ∃ r, A ^ Q8 % P = r := ⟨_, rfl⟩
  rw [hr] at H1 H2 H3 hpw hrp hrl
  clear hr
  have hsp := mod_lt_P (r * im)
  have hsl := mod_lt_T (r * im)
  obtain ⟨s, hs⟩ : ∃ s, r * im % P = s := ⟨_, rfl⟩
  rw [hs] at H2 H3 hsp hsl
  replace H1 := Away.mk H1
  replace H2 := Away.mk H2
  replace H3 := Away.mk H3
  unfold el
  go_enter Tryd.func21, Tryd.ntmps21
  go_upto_region 1 with (refine wpList_alloc_row rfl 24 rfl _ z4 ?_)
  try simp only [Act.put, List.setIfInBounds_toArray, List.set_cons_zero, List.set_cons_succ, alloc_size, h4]
  clear h4
  go_wp2_with (first | refine wpList_load_row rfl 24 _ rfl _ rfl _ _ _ _ h.r1 Tryd.underlying24 rfl (ie4 _) ?_ | refine wpList_build_C rfl 24 _ rfl _ bQ8 ?_)
  refine (hpw _).mono ?_
  rintro _ wn ⟨rfl, hb⟩
  replace h := h.below hb
  clear hb hpw
  obtain ⟨g3, hg3, q0, hq⟩ := new_row1 h
  replace h := h.alloc (.cells (C .u64 (Z 4)).toArray 24)
  go_upto_region 2 with (first | refine wpList_alloc_row rfl 24 rfl _ z4 ?_ | (refine wpList_store_R rfl 24 _ _ rfl _ (C .u64 (wds r)) (by rw [← hg3]; rfl) rfl q0 (ie4 _) (ze4 _) (C_allL _ _) ?_; intro w5 q hg5 hz5))
  replace h := h.grown hg5 hq.1
  have hq1 := hq.1
  try rw [hg3]
  clear q0 hg5 hq hg3 hz5
  by_cases er : r * r % P = a
  · replace h := h.drew
    replace q := q.drew
    refine wp_region_noPanic ?_
    refine wp_region_held_drew (S := fun w' => Row w' g3 24 (C .u64 (wds r)) ∧ Row w' w.heap.size 24 (C .u64 (wds A))) (by kernel_rfl) ⟨q, h.r1⟩ (fun hHeld => ?_)
    refine wpAnyH_takeL (i := 0) (v := (.agg (C .u64 (wds r)).toArray)) rfl (by kernel_rfl) (by kernel_rfl) (by kernel_rfl) (fun _ _ _ h => h) (by rfl) ?h0u (by assumption) ?_
    case h0u => intro w hSw; exact exec_load_R 24 _ rfl rfl hSw.1 Tryd.underlying24 (ie4 r)
    simp only [Act.put, List.setIfInBounds_toArray, List.set_cons_zero, List.set_cons_succ]
    refine wpAnyH_takeL (i := 1) (v := (.agg (C .u64 (wds r)).toArray)) rfl (by kernel_rfl) (by kernel_rfl) (by kernel_rfl) (fun _ _ _ h => h) (by rfl) ?h1u (by assumption) ?_
    case h1u => intro w hSw; exact exec_load_R 24 _ rfl rfl hSw.1 Tryd.underlying24 (ie4 r)
    simp only [Act.put, List.setIfInBounds_toArray, List.set_cons_zero, List.set_cons_succ]
    refine wpAnyH_takeL (i := 3) (v := (.agg (C .u64 (wds A)).toArray)) rfl (by kernel_rfl) (by kernel_rfl) (by kernel_rfl) (fun _ _ _ h => h) (by rfl) ?h3u (by assumption) ?_
    case h3u => intro w hSw; exact exec_load_R 24 _ rfl rfl hSw.2 Tryd.underlying24 (ie4 A)
    simp only [Act.put, List.setIfInBounds_toArray, List.set_cons_zero, List.set_cons_succ]
    refine allReadyH_oneL (i := 2) (by kernel_rfl) rfl (by rfl) (fun K hK => ?_)
    go_simp
    refine (frefmul_el r r hrl hrl _).mono ?_
    rintro _ wnu ⟨rfl, hb⟩
    replace h := h.below hb
    replace q := q.belowS hb
    clear hb
    refine hK.out _ _ ⟨q, h.r1⟩ (fun hHeld => ?_)
    clear hK K
    refine allReadyH_oneL (i := 4) (by kernel_rfl) rfl (by rfl) (fun K hK => ?_)
    go_simp
    refine (hre _).mono ?_
    rintro _ wmu ⟨rfl, hb⟩
    replace h := h.below hb
    replace q := q.belowS hb
    clear hb
    refine hK.out _ _ ⟨q, h.r1⟩ (fun hHeld => ?_)
    clear hK K
    have hqu := fun w => neq4 w (a) a (hal) hal
    simp only [decide_true] at hqu
    refine wpAnyH_takeL (i := 5) (v := .bool false) rfl (by kernel_rfl) (by kernel_rfl) (by kernel_rfl) (fun _ _ _ h => h) (by rfl) ?h5u (by assumption) ?_
    case h5u => intro w hSw; go_simp <;> first | rfl | (simp only [hqu]; rfl)
    simp only [Act.put, List.setIfInBounds_toArray, List.set_cons_zero, List.set_cons_succ]
    clear hqu
    refine wpAnyH_done (by kernel_rfl) ?_ _
    refine NoPanic.normal ?_
    go_upto_region 4 with fail
    replace h := h.drew
    replace q := q.drew
    refine wp_region_noPanic ?_
    refine wp_region_held_drew (S := fun w' => Row w' g3 24 (C .u64 (wds r)) ∧ Row w' w.heap.size 24 (C .u64 (wds A))) (by kernel_rfl) ⟨q, h.r1⟩ (fun hHeld => ?_)
    refine wpAnyH_takeL (i := 0) (v := (.agg (C .u64 (wds r)).toArray)) rfl (by kernel_rfl) (by kernel_rfl) (by kernel_rfl) (fun _ _ _ h => h) (by rfl) ?h0v (by assumption) ?_
    case h0v => intro w hSw; exact exec_load_R 24 _ rfl rfl hSw.1 Tryd.underlying24 (ie4 r)
    simp only [Act.put, List.setIfInBounds_toArray, List.set_cons_zero, List.set_cons_succ]
    refine wpAnyH_takeL (i := 1) (v := (.agg (C .u64 (wds r)).toArray)) rfl (by kernel_rfl) (by kernel_rfl) (by kernel_rfl) (fun _ _ _ h => h) (by rfl) ?h1v (by assumption) ?_
    case h1v => intro w hSw; exact exec_load_R 24 _ rfl rfl hSw.1 Tryd.underlying24 (ie4 r)
    simp only [Act.put, List.setIfInBounds_toArray, List.set_cons_zero, List.set_cons_succ]
    refine wpAnyH_takeL (i := 3) (v := (.agg (C .u64 (wds A)).toArray)) rfl (by kernel_rfl) (by kernel_rfl) (by kernel_rfl) (fun _ _ _ h => h) (by rfl) ?h3v (by assumption) ?_
    case h3v => intro w hSw; exact exec_load_R 24 _ rfl rfl hSw.2 Tryd.underlying24 (ie4 A)
    simp only [Act.put, List.setIfInBounds_toArray, List.set_cons_zero, List.set_cons_succ]
    refine allReadyH_oneL (i := 2) (by kernel_rfl) rfl (by rfl) (fun K hK => ?_)
    go_simp
    refine (frefmul_el r r hrl hrl _).mono ?_
    rintro _ wnv ⟨rfl, hb⟩
    replace h := h.below hb
    replace q := q.belowS hb
    clear hb
    refine hK.out _ _ ⟨q, h.r1⟩ (fun hHeld => ?_)
    clear hK K
    refine allReadyH_oneL (i := 4) (by kernel_rfl) rfl (by rfl) (fun K hK => ?_)
    go_simp
    refine (hre _).mono ?_
    rintro _ wmv ⟨rfl, hb⟩
    replace h := h.below hb
    replace q := q.belowS hb
    clear hb
    refine hK.out _ _ ⟨q, h.r1⟩ (fun hHeld => ?_)
    clear hK K
    have hqv := fun w => neq4 w (a) a (hal) hal
    simp only [decide_true] at hqv
    refine wpAnyH_takeL (i := 5) (v := .bool false) rfl (by kernel_rfl) (by kernel_rfl) (by kernel_rfl) (fun _ _ _ h => h) (by rfl) ?h5v (by assumption) ?_
    case h5v => intro w hSw; go_simp <;> first | rfl | (simp only [hqv]; rfl)
    simp only [Act.put, List.setIfInBounds_toArray, List.set_cons_zero, List.set_cons_succ]
    clear hqv
    refine wpAnyH_done (by kernel_rfl) ?_ _
    refine NoPanic.normal ?_
    have c0 := q.cell 0
    rw [C_get .u64 (by rw [wds_length]; decide), wds_getD hrl, Nat.pow_zero, Nat.div_one] at c0
    have hx0 : r % 18446744073709551616 % 2 = r % 2 := by omega
    have hxl : r % 18446744073709551616 < 18446744073709551616 := Nat.mod_lt _ (by decide)
    generalize r % 18446744073709551616 = x0 at *
    by_cases ho : r % 2 = 1
    · have t1 : (x0 : Int).tmod 2 = 1 := by rw [Int.tmod_eq_emod_of_nonneg (by omega)]; omega
      have t2 : (x0 : Int) % 2 = 1 := by omega
      have HZ := Away.mk (evn_sub hrp ho)
      have hE : evn r < 115792089237316195423570985008687907853269984665640564039457584007913129639936 := Nat.lt_trans (evn_ok hrp).1 P_lt
      clear hx0
      go_wp2_with (first | refine wpList_build_Z rfl 24 rfl _ b4z ?_ | refine wpList_load_row rfl 24 _ rfl _ rfl _ _ _ _ q Tryd.underlying24 rfl (ie4 r) ?_)
      refine (frefsub_el 0 r (by decide) hrl _).mono ?_
      rintro _ ws ⟨rfl, hb⟩
      rw [HZ.out]
      replace h := h.below hb
      replace q := q.belowS hb
      clear hb HZ c0
      generalize hev : evn r = E at *
      go_wp2_with (first | (refine wpList_store_R rfl 24 _ _ rfl _ (C .u64 (wds E)) rfl rfl q (ie4 _) (ee4 _ _) (C_allL _ _) ?_; intro w6 q6 hg6 hz6; have h6 := h.grown hg6 hq1) | refine wpList_load_row rfl 24 _ rfl _ rfl _ _ _ _ q6 Tryd.underlying24 rfl (ie4 _) ?_ | (refine wpList_store_R rfl 24 _ _ rfl _ (C .u64 (wds E)) rfl rfl h6.r3 (ie4 _) (ze4 _) (C_allL _ _) ?_; intro w7 q7 hg7 hz7))
      exact result_row2 Tryd.results21 (v := .bool true) rfl rfl q7 Tryd.underlying24 rfl (ie4 _) rfl ⟨by rw [H1.out er], below_grown h6.bel hg7 (by omega) h6.r3.lt⟩
    · have t1 : (x0 : Int).tmod 2 = 0 := by rw [Int.tmod_eq_emod_of_nonneg (by omega)]; omega
      have t2 : (x0 : Int) % 2 = 0 := by omega
      have hev : evn r = r := by unfold evn; rw [if_neg ho]
      clear hx0
      go_wp2_with (first | refine wpList_load_row rfl 24 _ rfl _ rfl _ _ _ _ q Tryd.underlying24 rfl (ie4 r) ?_ | (refine wpList_store_R rfl 24 _ _ rfl _ (C .u64 (wds r)) rfl rfl h.r3 (ie4 _) (ze4 _) (C_allL _ _) ?_; intro w7 q7 hg7 hz7))
      exact result_row2 Tryd.results21 (v := .bool true) rfl rfl q7 Tryd.underlying24 rfl (ie4 _) rfl ⟨by rw [H1.out er, hev], below_grown h.bel hg7 (by omega) h.r3.lt⟩
  · replace h := h.drew
    replace q := q.drew
    refine wp_region_noPanic ?_
    refine wp_region_held_drew (S := fun w' => Row w' g3 24 (C .u64 (wds r)) ∧ Row w' w.heap.size 24 (C .u64 (wds A))) (by kernel_rfl) ⟨q, h.r1⟩ (fun hHeld => ?_)
    refine wpAnyH_takeL (i := 0) (v := (.agg (C .u64 (wds r)).toArray)) rfl (by kernel_rfl) (by kernel_rfl) (by kernel_rfl) (fun _ _ _ h => h) (by rfl) ?h0x (by assumption) ?_
    case h0x => intro w hSw; exact exec_load_R 24 _ rfl rfl hSw.1 Tryd.underlying24 (ie4 r)
    simp only [Act.put, List.setIfInBounds_toArray, List.set_cons_zero, List.set_cons_succ]
    refine wpAnyH_takeL (i := 1) (v := (.agg (C .u64 (wds r)).toArray)) rfl (by kernel_rfl) (by kernel_rfl) (by kernel_rfl) (fun _ _ _ h => h) (by rfl) ?h1x (by assumption) ?_
    case h1x => intro w hSw; exact exec_load_R 24 _ rfl rfl hSw.1 Tryd.underlying24 (ie4 r)
    simp only [Act.put, List.setIfInBounds_toArray, List.set_cons_zero, List.set_cons_succ]
    refine wpAnyH_takeL (i := 3) (v := (.agg (C .u64 (wds A)).toArray)) rfl (by kernel_rfl) (by kernel_rfl) (by kernel_rfl) (fun _ _ _ h => h) (by rfl) ?h3x (by assumption) ?_
    case h3x => intro w hSw; exact exec_load_R 24 _ rfl rfl hSw.2 Tryd.underlying24 (ie4 A)
    simp only [Act.put, List.setIfInBounds_toArray, List.set_cons_zero, List.set_cons_succ]
    refine allReadyH_oneL (i := 2) (by kernel_rfl) rfl (by rfl) (fun K hK => ?_)
    go_simp
    refine (frefmul_el r r hrl hrl _).mono ?_
    rintro _ wnx ⟨rfl, hb⟩
    replace h := h.below hb
    replace q := q.belowS hb
    clear hb
    refine hK.out _ _ ⟨q, h.r1⟩ (fun hHeld => ?_)
    clear hK K
    refine allReadyH_oneL (i := 4) (by kernel_rfl) rfl (by rfl) (fun K hK => ?_)
    go_simp
    refine (hre _).mono ?_
    rintro _ wmx ⟨rfl, hb⟩
    replace h := h.below hb
    replace q := q.belowS hb
    clear hb
    refine hK.out _ _ ⟨q, h.r1⟩ (fun hHeld => ?_)
    clear hK K
    have hqx := fun w => neq4 w (r * r % P) a (mod_lt_T _) hal
    simp only [decide_eq_false er] at hqx
    refine wpAnyH_takeL (i := 5) (v := .bool true) rfl (by kernel_rfl) (by kernel_rfl) (by kernel_rfl) (fun _ _ _ h => h) (by rfl) ?h5x (by assumption) ?_
    case h5x => intro w hSw; go_simp <;> first | rfl | (simp only [hqx]; rfl)
    simp only [Act.put, List.setIfInBounds_toArray, List.set_cons_zero, List.set_cons_succ]
    clear hqx
    refine wpAnyH_done (by kernel_rfl) ?_ _
    refine NoPanic.normal ?_
    go_upto_region 3 with fail
    go_cut [4] (fun v4 wc => v4 = .pointer (some ⟨g3, 0, none⟩) ∧ Row wc g3 24 (C .u64 (wds s)) ∧ F.H1 w.heap.size w wc (C .u64 (wds A)) (C .u64 (Z 4)))
    case first =>
      replace h := h.drew
      replace q := q.drew
      refine wp_region_noPanic ?_
      refine wp_region_held_drew (S := fun _ => True) (by kernel_rfl) trivial (fun hHeld => ?_)
      refine wpAnyH_takeL (i := 1) (v := ?v1p) rfl (by kernel_rfl) (by kernel_rfl) (by kernel_rfl) (fun _ _ _ h => h) (by rfl) ?h1p (by assumption) ?_
      case h1p => intro w hSw; go_simp <;> with_reducible rfl
      simp only [Act.put, List.setIfInBounds_toArray, List.set_cons_zero, List.set_cons_succ]
      refine wpAnyH_takeL (i := 2) (v := ?v2p) rfl (by kernel_rfl) (by kernel_rfl) (by kernel_rfl) (fun _ _ _ h => h) (by rfl) ?h2p (by assumption) ?_
      case h2p => intro w hSw; go_simp <;> with_reducible rfl
      simp only [Act.put, List.setIfInBounds_toArray, List.set_cons_zero, List.set_cons_succ]
      refine ready_twoL (i := 0) (j := 3) (by kernel_rfl) rfl rfl (by rfl) (by rfl) (fun K hK => ?_) (fun K hK => ?_)
      · refine wp_value (.agg (C .u64 (wds r)).toArray) (exec_load_R 24 _ rfl rfl q Tryd.underlying24 (ie4 r)) ?_
        refine hK.out _ _ trivial (fun hHeld => ?_)
        clear hK K
        refine allReadyH_oneL (i := 3) (by kernel_rfl) rfl (by rfl) (fun K hK => ?_)
        go_simp
        refine (hp2 _).mono ?_
        rintro _ wp ⟨rfl, hb⟩
        replace h := h.below hb
        replace q := q.belowS hb
        clear hb
        refine hK.out _ _ trivial (fun hHeld => ?_)
        clear hK K
        refine allReadyH_oneL (i := 4) (by kernel_rfl) rfl (by rfl) (fun K hK => ?_)
        go_simp
        refine (frefmul_el r im hrl im_lt _).mono ?_
        rintro _ wn2 ⟨rfl, hb⟩
        rw [hs]
        replace h := h.below hb
        replace q := q.belowS hb
        clear hb
        refine hK.out _ _ trivial (fun hHeld => ?_)
        clear hK K
        refine allReadyH_oneL (i := 5) (by kernel_rfl) rfl (by rfl) (fun K hK => ?_)
        refine wp_store_R 24 _ _ rfl _ (C .u64 (wds s)) rfl rfl q (ie4 _) (ee4 _ _) (C_allL _ _) ?_
        intro w6 q6 hg6 hz6
        have h6 := h.grown hg6 hq1
        refine hK.out _ _ trivial (fun hHeld => ?_)
        clear hK K
        refine wpAnyH_done (by kernel_rfl) ?_ _
        refine NoPanic.normal ?_
        go_wp2
        go_meet
        case rel => exact ⟨rfl, q6, h6⟩
      · go_simp
        refine (hp2 _).mono ?_
        rintro _ wp ⟨rfl, hb⟩
        replace h := h.below hb
        replace q := q.belowS hb
        clear hb
        refine hK.out _ _ trivial (fun hHeld => ?_)
        clear hK K
        refine allReadyH_oneL (i := 0) (by kernel_rfl) rfl (by rfl) (fun K hK => ?_)
        refine wp_value (.agg (C .u64 (wds r)).toArray) (exec_load_R 24 _ rfl rfl q Tryd.underlying24 (ie4 r)) ?_
        refine hK.out _ _ trivial (fun hHeld => ?_)
        clear hK K
        refine allReadyH_oneL (i := 4) (by kernel_rfl) rfl (by rfl) (fun K hK => ?_)
        go_simp
        refine (frefmul_el r im hrl im_lt _).mono ?_
        rintro _ wn2 ⟨rfl, hb⟩
        rw [hs]
        replace h := h.below hb
        replace q := q.belowS hb
        clear hb
        refine hK.out _ _ trivial (fun hHeld => ?_)
        clear hK K
        refine allReadyH_oneL (i := 5) (by kernel_rfl) rfl (by rfl) (fun K hK => ?_)
        refine wp_store_R 24 _ _ rfl _ (C .u64 (wds s)) rfl rfl q (ie4 _) (ee4 _ _) (C_allL _ _) ?_
        intro w6 q6 hg6 hz6
        have h6 := h.grown hg6 hq1
        refine hK.out _ _ trivial (fun hHeld => ?_)
        clear hK K
        refine wpAnyH_done (by kernel_rfl) ?_ _
        refine NoPanic.normal ?_
        go_wp2
        go_meet
        case rel => exact ⟨rfl, q6, h6⟩
    case rest =>
      clear q h
      obtain ⟨rfl, q, h⟩ := hcut
      go_upto_region 4 with fail
      by_cases es : s * s % P = a
      · replace h := h.drew
        replace q := q.drew
        refine wp_region_noPanic ?_
        refine wp_region_held_drew (S := fun w' => Row w' g3 24 (C .u64 (wds s)) ∧ Row w' w.heap.size 24 (C .u64 (wds A))) (by kernel_rfl) ⟨q, h.r1⟩ (fun hHeld => ?_)
        refine wpAnyH_takeL (i := 0) (v := (.agg (C .u64 (wds s)).toArray)) rfl (by kernel_rfl) (by kernel_rfl) (by kernel_rfl) (fun _ _ _ h => h) (by rfl) ?h0y (by assumption) ?_
        case h0y => intro w hSw; exact exec_load_R 24 _ rfl rfl hSw.1 Tryd.underlying24 (ie4 s)
        simp only [Act.put, List.setIfInBounds_toArray, List.set_cons_zero, List.set_cons_succ]
        refine wpAnyH_takeL (i := 1) (v := (.agg (C .u64 (wds s)).toArray)) rfl (by kernel_rfl) (by kernel_rfl) (by kernel_rfl) (fun _ _ _ h => h) (by rfl) ?h1y (by assumption) ?_
        case h1y => intro w hSw; exact exec_load_R 24 _ rfl rfl hSw.1 Tryd.underlying24 (ie4 s)
        simp only [Act.put, List.setIfInBounds_toArray, List.set_cons_zero, List.set_cons_succ]
        refine wpAnyH_takeL (i := 3) (v := (.agg (C .u64 (wds A)).toArray)) rfl (by kernel_rfl) (by kernel_rfl) (by kernel_rfl) (fun _ _ _ h => h) (by rfl) ?h3y (by assumption) ?_
        case h3y => intro w hSw; exact exec_load_R 24 _ rfl rfl hSw.2 Tryd.underlying24 (ie4 A)
        simp only [Act.put, List.setIfInBounds_toArray, List.set_cons_zero, List.set_cons_succ]
        refine allReadyH_oneL (i := 2) (by kernel_rfl) rfl (by rfl) (fun K hK => ?_)
        go_simp
        refine (frefmul_el s s hsl hsl _).mono ?_
        rintro _ wny ⟨rfl, hb⟩
        replace h := h.below hb
        replace q := q.belowS hb
        clear hb
        refine hK.out _ _ ⟨q, h.r1⟩ (fun hHeld => ?_)
        clear hK K
        refine allReadyH_oneL (i := 4) (by kernel_rfl) rfl (by rfl) (fun K hK => ?_)
        go_simp
        refine (hre _).mono ?_
        rintro _ wmy ⟨rfl, hb⟩
        replace h := h.below hb
        replace q := q.belowS hb
        clear hb
        refine hK.out _ _ ⟨q, h.r1⟩ (fun hHeld => ?_)
        clear hK K
        have hqy := fun w => neq4 w (a) a (hal) hal
        simp only [decide_true] at hqy
        refine wpAnyH_takeL (i := 5) (v := .bool false) rfl (by kernel_rfl) (by kernel_rfl) (by kernel_rfl) (fun _ _ _ h => h) (by rfl) ?h5y (by assumption) ?_
        case h5y => intro w hSw; go_simp <;> first | rfl | (simp only [hqy]; rfl)
        simp only [Act.put, List.setIfInBounds_toArray, List.set_cons_zero, List.set_cons_succ]
        clear hqy
        refine wpAnyH_done (by kernel_rfl) ?_ _
        refine NoPanic.normal ?_
        have c0 := q.cell 0
        rw [C_get .u64 (by rw [wds_length]; decide), wds_getD hsl, Nat.pow_zero, Nat.div_one] at c0
        have hx0 : s % 18446744073709551616 % 2 = s % 2 := by omega
        have hxl : s % 18446744073709551616 < 18446744073709551616 := Nat.mod_lt _ (by decide)
        generalize s % 18446744073709551616 = x0 at *
        by_cases ho : s % 2 = 1
        · have t1 : (x0 : Int).tmod 2 = 1 := by rw [Int.tmod_eq_emod_of_nonneg (by omega)]; omega
          have t2 : (x0 : Int) % 2 = 1 := by omega
          have HZ := Away.mk (evn_sub hsp ho)
          have hE : evn s < 115792089237316195423570985008687907853269984665640564039457584007913129639936 := Nat.lt_trans (evn_ok hsp).1 P_lt
          clear hx0
          go_wp2_with (first | refine wpList_build_Z rfl 24 rfl _ b4z ?_ | refine wpList_load_row rfl 24 _ rfl _ rfl _ _ _ _ q Tryd.underlying24 rfl (ie4 s) ?_)
          refine (frefsub_el 0 s (by decide) hsl _).mono ?_
          rintro _ ws ⟨rfl, hb⟩
          rw [HZ.out]
          replace h := h.below hb
          replace q := q.belowS hb
          clear hb HZ c0
          generalize hev : evn s = E at *
          go_wp2_with (first | (refine wpList_store_R rfl 24 _ _ rfl _ (C .u64 (wds E)) rfl rfl q (ie4 _) (ee4 _ _) (C_allL _ _) ?_; intro w6 q6 hg6 hz6; have h6 := h.grown hg6 hq1) | refine wpList_load_row rfl 24 _ rfl _ rfl _ _ _ _ q6 Tryd.underlying24 rfl (ie4 _) ?_ | (refine wpList_store_R rfl 24 _ _ rfl _ (C .u64 (wds E)) rfl rfl h6.r3 (ie4 _) (ze4 _) (C_allL _ _) ?_; intro w7 q7 hg7 hz7))
          exact result_row2 Tryd.results21 (v := .bool true) rfl rfl q7 Tryd.underlying24 rfl (ie4 _) rfl ⟨by rw [H2.out er es], below_grown h6.bel hg7 (by omega) h6.r3.lt⟩
        · have t1 : (x0 : Int).tmod 2 = 0 := by rw [Int.tmod_eq_emod_of_nonneg (by omega)]; omega
          have t2 : (x0 : Int) % 2 = 0 := by omega
          have hev : evn s = s := by unfold evn; rw [if_neg ho]
          clear hx0
          go_wp2_with (first | refine wpList_load_row rfl 24 _ rfl _ rfl _ _ _ _ q Tryd.underlying24 rfl (ie4 s) ?_ | (refine wpList_store_R rfl 24 _ _ rfl _ (C .u64 (wds s)) rfl rfl h.r3 (ie4 _) (ze4 _) (C_allL _ _) ?_; intro w7 q7 hg7 hz7))
          exact result_row2 Tryd.results21 (v := .bool true) rfl rfl q7 Tryd.underlying24 rfl (ie4 _) rfl ⟨by rw [H2.out er es, hev], below_grown h.bel hg7 (by omega) h.r3.lt⟩
      · replace h := h.drew
        replace q := q.drew
        refine wp_region_noPanic ?_
        refine wp_region_held_drew (S := fun w' => Row w' g3 24 (C .u64 (wds s)) ∧ Row w' w.heap.size 24 (C .u64 (wds A))) (by kernel_rfl) ⟨q, h.r1⟩ (fun hHeld => ?_)
        refine wpAnyH_takeL (i := 0) (v := (.agg (C .u64 (wds s)).toArray)) rfl (by kernel_rfl) (by kernel_rfl) (by kernel_rfl) (fun _ _ _ h => h) (by rfl) ?h0z (by assumption) ?_
        case h0z => intro w hSw; exact exec_load_R 24 _ rfl rfl hSw.1 Tryd.underlying24 (ie4 s)
        simp only [Act.put, List.setIfInBounds_toArray, List.set_cons_zero, List.set_cons_succ]
        refine wpAnyH_takeL (i := 1) (v := (.agg (C .u64 (wds s)).toArray)) rfl (by kernel_rfl) (by kernel_rfl) (by kernel_rfl) (fun _ _ _ h => h) (by rfl) ?h1z (by assumption) ?_
        case h1z => intro w hSw; exact exec_load_R 24 _ rfl rfl hSw.1 Tryd.underlying24 (ie4 s)
        simp only [Act.put, List.setIfInBounds_toArray, List.set_cons_zero, List.set_cons_succ]
        refine wpAnyH_takeL (i := 3) (v := (.agg (C .u64 (wds A)).toArray)) rfl (by kernel_rfl) (by kernel_rfl) (by kernel_rfl) (fun _ _ _ h => h) (by rfl) ?h3z (by assumption) ?_
        case h3z => intro w hSw; exact exec_load_R 24 _ rfl rfl hSw.2 Tryd.underlying24 (ie4 A)
        simp only [Act.put, List.setIfInBounds_toArray, List.set_cons_zero, List.set_cons_succ]
        refine allReadyH_oneL (i := 2) (by kernel_rfl) rfl (by rfl) (fun K hK => ?_)
        go_simp
        refine (frefmul_el s s hsl hsl _).mono ?_
        rintro _ wnz ⟨rfl, hb⟩
        replace h := h.below hb
        replace q := q.belowS hb
        clear hb
        refine hK.out _ _ ⟨q, h.r1⟩ (fun hHeld => ?_)
        clear hK K
        refine allReadyH_oneL (i := 4) (by kernel_rfl) rfl (by rfl) (fun K hK => ?_)
        go_simp
        refine (hre _).mono ?_
        rintro _ wmz ⟨rfl, hb⟩
        replace h := h.below hb
        replace q := q.belowS hb
        clear hb
        refine hK.out _ _ ⟨q, h.r1⟩ (fun hHeld => ?_)
        clear hK K
        have hqz := fun w => neq4 w (s * s % P) a (mod_lt_T _) hal
        simp only [decide_eq_false es] at hqz
        refine wpAnyH_takeL (i := 5) (v := .bool true) rfl (by kernel_rfl) (by kernel_rfl) (by kernel_rfl) (fun _ _ _ h => h) (by rfl) ?h5z (by assumption) ?_
        case h5z => intro w hSw; go_simp <;> first | rfl | (simp only [hqz]; rfl)
        simp only [Act.put, List.setIfInBounds_toArray, List.set_cons_zero, List.set_cons_succ]
        clear hqz
        refine wpAnyH_done (by kernel_rfl) ?_ _
        refine NoPanic.normal ?_
        go_wp2_with (first | refine wpList_build_Z rfl 24 rfl _ b4z ?_ | (refine wpList_store_R rfl 24 _ _ rfl _ (C .u64 (wds 0)) rfl rfl h.r3 (ie4 _) (ze4 _) (C_allL _ _) ?_; intro w7 q7 hg7 hz7))
        exact result_row2 Tryd.results21 (v := .bool false) rfl rfl q7 Tryd.underlying24 rfl (ie4 _) rfl ⟨by rw [H3.out er es], below_grown h.bel hg7 (by omega) h.r3.lt⟩
end Go.Proofs.YtgakpgcjninbgaaDoor.F
