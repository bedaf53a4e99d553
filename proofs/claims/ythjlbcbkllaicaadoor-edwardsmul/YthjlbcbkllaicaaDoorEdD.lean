/-
  The document's sum of fractions; over this seat's translation. Conditions: each as it says.
-/
import Derived.Test.YthjlbcbkllaicaaDoorE13a
namespace Go.Proofs.YthjlbcbkllaicaaDoor.F
open Go.RowKit
set_option linter.unusedVariables false
set_option maxRecDepth 10000

open E (z z_val z_same z_add z_mul z_sub z_inv z_mod z_of dd Pt padd pneg pmul iv ax ay tadd)
theorem tadd_form (x1 y1 z1 x2 y2 z2 : E.Z) : tadd (x1, y1, z1) (x2, y2, z2) = (z1 * z2 * ((z1 * z2 * (z1 * z2) - dd * (x1 * x2 * (y1 * y2))) * (x1 * y2 + x2 * y1)), z1 * z2 * ((z1 * z2 * (z1 * z2) + dd * (x1 * x2 * (y1 * y2))) * (x1 * x2 + y1 * y2)), (z1 * z2 * (z1 * z2) - dd * (x1 * x2 * (y1 * y2))) * (z1 * z2 * (z1 * z2) + dd * (x1 * x2 * (y1 * y2)))) := by
  rfl
set_option maxHeartbeats 8000000 in
theorem plus13_any (A B M D E N : Nat) (lA : A < 115792089237316195423570985008687907853269984665640564039457584007913129639936) (lB : B < 115792089237316195423570985008687907853269984665640564039457584007913129639936) (lM : M < 115792089237316195423570985008687907853269984665640564039457584007913129639936) (lD : D < 115792089237316195423570985008687907853269984665640564039457584007913129639936) (lE : E < 115792089237316195423570985008687907853269984665640564039457584007913129639936) (lN : N < 115792089237316195423570985008687907853269984665640564039457584007913129639936) (w : World) : Calls Tryd.prog 51 #[.agg (fc A B M).toArray, .agg (fc D E N).toArray] w fun e w' => (∃ U V W, e = .returned (.agg (fc U V W).toArray) ∧ U < 115792089237316195423570985008687907853269984665640564039457584007913129639936 ∧ V < 115792089237316195423570985008687907853269984665640564039457584007913129639936 ∧ W < 115792089237316195423570985008687907853269984665640564039457584007913129639936 ∧ (z U, z V, z W) = tadd (z A, z B, z M) (z D, z E, z N)) ∧ Below w.heap.size w w' := by
  obtain ⟨w2, h2, h⟩ := Fr.three w 56 56 56 (fc A B M) (fc D E N) (fc 0 0 0)
  obtain ⟨n1, en1, ln1, cn1⟩ : ∃ n, M * N % P = n ∧ n < 115792089237316195423570985008687907853269984665640564039457584007913129639936 ∧ ∀ (w : World), Calls Tryd.prog 37 #[.agg (ec M).toArray, .agg (ec N).toArray] w fun e w' => e = .returned (.agg (ec n).toArray) ∧ Below w.heap.size w w' := ⟨_, rfl, mod_lt_T _, fun w => frefmul_el M N lM lN w⟩
  replace en1 := Away.mk en1
  obtain ⟨n2, en2, ln2, cn2⟩ : ∃ n, n1 * n1 % P = n ∧ n < 115792089237316195423570985008687907853269984665640564039457584007913129639936 ∧ ∀ (w : World), Calls Tryd.prog 37 #[.agg (ec n1).toArray, .agg (ec n1).toArray] w fun e w' => e = .returned (.agg (ec n).toArray) ∧ Below w.heap.size w w' := ⟨_, rfl, mod_lt_T _, fun w => frefmul_el n1 n1 ln1 ln1 w⟩
  replace en2 := Away.mk en2
  obtain ⟨n3, en3, ln3, cn3⟩ : ∃ n, A * D % P = n ∧ n < 115792089237316195423570985008687907853269984665640564039457584007913129639936 ∧ ∀ (w : World), Calls Tryd.prog 37 #[.agg (ec A).toArray, .agg (ec D).toArray] w fun e w' => e = .returned (.agg (ec n).toArray) ∧ Below w.heap.size w w' := ⟨_, rfl, mod_lt_T _, fun w => frefmul_el A D lA lD w⟩
  replace en3 := Away.mk en3
  obtain ⟨n4, en4, ln4, cn4⟩ : ∃ n, B * E % P = n ∧ n < 115792089237316195423570985008687907853269984665640564039457584007913129639936 ∧ ∀ (w : World), Calls Tryd.prog 37 #[.agg (ec B).toArray, .agg (ec E).toArray] w fun e w' => e = .returned (.agg (ec n).toArray) ∧ Below w.heap.size w w' := ⟨_, rfl, mod_lt_T _, fun w => frefmul_el B E lB lE w⟩
  replace en4 := Away.mk en4
  obtain ⟨n5, en5, ln5, cn5⟩ : ∃ n, n3 * n4 % P = n ∧ n < 115792089237316195423570985008687907853269984665640564039457584007913129639936 ∧ ∀ (w : World), Calls Tryd.prog 37 #[.agg (ec n3).toArray, .agg (ec n4).toArray] w fun e w' => e = .returned (.agg (ec n).toArray) ∧ Below w.heap.size w w' := ⟨_, rfl, mod_lt_T _, fun w => frefmul_el n3 n4 ln3 ln4 w⟩
  replace en5 := Away.mk en5
  obtain ⟨n6, en6, ln6, cn6⟩ : ∃ n, Dn * n5 % P = n ∧ n < 115792089237316195423570985008687907853269984665640564039457584007913129639936 ∧ ∀ (w : World), Calls Tryd.prog 37 #[.agg (ec Dn).toArray, .agg (ec n5).toArray] w fun e w' => e = .returned (.agg (ec n).toArray) ∧ Below w.heap.size w w' := ⟨_, rfl, mod_lt_T _, fun w => frefmul_el Dn n5 lDn ln5 w⟩
  replace en6 := Away.mk en6
  obtain ⟨n7, en7, ln7, cn7⟩ : ∃ n, (n2 % P + (P - n6 % P)) % P = n ∧ n < 115792089237316195423570985008687907853269984665640564039457584007913129639936 ∧ ∀ (w : World), Calls Tryd.prog 40 #[.agg (ec n2).toArray, .agg (ec n6).toArray] w fun e w' => e = .returned (.agg (ec n).toArray) ∧ Below w.heap.size w w' := ⟨_, rfl, mod_lt_T _, fun w => frefsub_el n2 n6 ln2 ln6 w⟩
  replace en7 := Away.mk en7
  obtain ⟨n8, en8, ln8, cn8⟩ : ∃ n, (n2 + n6) % P = n ∧ n < 115792089237316195423570985008687907853269984665640564039457584007913129639936 ∧ ∀ (w : World), Calls Tryd.prog 38 #[.agg (ec n2).toArray, .agg (ec n6).toArray] w fun e w' => e = .returned (.agg (ec n).toArray) ∧ Below w.heap.size w w' := ⟨_, rfl, mod_lt_T _, fun w => frefadd_el n2 n6 ln2 ln6 w⟩
  replace en8 := Away.mk en8
  obtain ⟨n9, en9, ln9, cn9⟩ : ∃ n, A * E % P = n ∧ n < 115792089237316195423570985008687907853269984665640564039457584007913129639936 ∧ ∀ (w : World), Calls Tryd.prog 37 #[.agg (ec A).toArray, .agg (ec E).toArray] w fun e w' => e = .returned (.agg (ec n).toArray) ∧ Below w.heap.size w w' := ⟨_, rfl, mod_lt_T _, fun w => frefmul_el A E lA lE w⟩
  replace en9 := Away.mk en9
  obtain ⟨n10, en10, ln10, cn10⟩ : ∃ n, D * B % P = n ∧ n < 115792089237316195423570985008687907853269984665640564039457584007913129639936 ∧ ∀ (w : World), Calls Tryd.prog 37 #[.agg (ec D).toArray, .agg (ec B).toArray] w fun e w' => e = .returned (.agg (ec n).toArray) ∧ Below w.heap.size w w' := ⟨_, rfl, mod_lt_T _, fun w => frefmul_el D B lD lB w⟩
  replace en10 := Away.mk en10
  obtain ⟨n11, en11, ln11, cn11⟩ : ∃ n, (n9 + n10) % P = n ∧ n < 115792089237316195423570985008687907853269984665640564039457584007913129639936 ∧ ∀ (w : World), Calls Tryd.prog 38 #[.agg (ec n9).toArray, .agg (ec n10).toArray] w fun e w' => e = .returned (.agg (ec n).toArray) ∧ Below w.heap.size w w' := ⟨_, rfl, mod_lt_T _, fun w => frefadd_el n9 n10 ln9 ln10 w⟩
  replace en11 := Away.mk en11
  obtain ⟨n12, en12, ln12, cn12⟩ : ∃ n, n7 * n11 % P = n ∧ n < 115792089237316195423570985008687907853269984665640564039457584007913129639936 ∧ ∀ (w : World), Calls Tryd.prog 37 #[.agg (ec n7).toArray, .agg (ec n11).toArray] w fun e w' => e = .returned (.agg (ec n).toArray) ∧ Below w.heap.size w w' := ⟨_, rfl, mod_lt_T _, fun w => frefmul_el n7 n11 ln7 ln11 w⟩
  replace en12 := Away.mk en12
  obtain ⟨n13, en13, ln13, cn13⟩ : ∃ n, n1 * n12 % P = n ∧ n < 115792089237316195423570985008687907853269984665640564039457584007913129639936 ∧ ∀ (w : World), Calls Tryd.prog 37 #[.agg (ec n1).toArray, .agg (ec n12).toArray] w fun e w' => e = .returned (.agg (ec n).toArray) ∧ Below w.heap.size w w' := ⟨_, rfl, mod_lt_T _, fun w => frefmul_el n1 n12 ln1 ln12 w⟩
  replace en13 := Away.mk en13
  obtain ⟨n14, en14, ln14, cn14⟩ : ∃ n, (n3 + n4) % P = n ∧ n < 115792089237316195423570985008687907853269984665640564039457584007913129639936 ∧ ∀ (w : World), Calls Tryd.prog 38 #[.agg (ec n3).toArray, .agg (ec n4).toArray] w fun e w' => e = .returned (.agg (ec n).toArray) ∧ Below w.heap.size w w' := ⟨_, rfl, mod_lt_T _, fun w => frefadd_el n3 n4 ln3 ln4 w⟩
  replace en14 := Away.mk en14
  obtain ⟨n15, en15, ln15, cn15⟩ : ∃ n, n8 * n14 % P = n ∧ n < 115792089237316195423570985008687907853269984665640564039457584007913129639936 ∧ ∀ (w : World), Calls Tryd.prog 37 #[.agg (ec n8).toArray, .agg (ec n14).toArray] w fun e w' => e = .returned (.agg (ec n).toArray) ∧ Below w.heap.size w w' := ⟨_, rfl, mod_lt_T _, fun w => frefmul_el n8 n14 ln8 ln14 w⟩
  replace en15 := Away.mk en15
  obtain ⟨n16, en16, ln16, cn16⟩ : ∃ n, n1 * n15 % P = n ∧ n < 115792089237316195423570985008687907853269984665640564039457584007913129639936 ∧ ∀ (w : World), Calls Tryd.prog 37 #[.agg (ec n1).toArray, .agg (ec n15).toArray] w fun e w' => e = .returned (.agg (ec n).toArray) ∧ Below w.heap.size w w' := ⟨_, rfl, mod_lt_T _, fun w => frefmul_el n1 n15 ln1 ln15 w⟩
  replace en16 := Away.mk en16
  obtain ⟨n17, en17, ln17, cn17⟩ : ∃ n, n7 * n8 % P = n ∧ n < 115792089237316195423570985008687907853269984665640564039457584007913129639936 ∧ ∀ (w : World), Calls Tryd.prog 37 #[.agg (ec n7).toArray, .agg (ec n8).toArray] w fun e w' => e = .returned (.agg (ec n).toArray) ∧ Below w.heap.size w w' := ⟨_, rfl, mod_lt_T _, fun w => frefmul_el n7 n8 ln7 ln8 w⟩
  replace en17 := Away.mk en17
  have HV : Away ((z n13, z n16, z n17) = tadd (z A, z B, z M) (z D, z E, z N)) := ⟨by
    rw [tadd_form]
    rw [← en17.out, z_mul, ← en16.out, z_mul, ← en15.out, z_mul, ← en14.out, z_add, ← en13.out, z_mul, ← en12.out, z_mul, ← en11.out, z_add, ← en10.out, z_mul, ← en9.out, z_mul, ← en8.out, z_add, ← en7.out, z_sub, ← en6.out, z_mul, ← en5.out, z_mul, ← en4.out, z_mul, ← en3.out, z_mul, ← en2.out, z_mul, ← en1.out, z_mul, z_D]⟩
  go_enter Tryd.func51, Tryd.ntmps51
  go_upto_region 1 with (refine wpList_alloc_row rfl 56 rfl _ zFw ?_)
  try simp only [Act.put, List.setIfInBounds_toArray, List.set_cons_zero, List.set_cons_succ, alloc_size, h2]
  clear h2
  go_wp2_with (first | refine wpList_load_at rfl 24 _ rfl rfl (fc_z (h.row (i := 0) rfl)) rfl Tryd.underlying24 (ie4 _) ?_ | refine wpList_load_at rfl 24 _ rfl rfl (fc_z (h.row (i := 1) rfl)) rfl Tryd.underlying24 (ie4 _) ?_)
  refine (cn1 _).mono ?_
  rintro _ wn ⟨rfl, hb⟩
  replace h := h.below hb
  clear hb
  obtain ⟨g5, hgq, hq⟩ := h.more 3 24 (ec 0)
  replace hq : Fr w _ [(w.heap.size, 56, fc A B M), ((w.heap.size + 1), 56, fc D E N), ((w.heap.size + 1 + 1), 56, fc 0 0 0), (g5, 24, ec 0)] := hq
  go_upto_region 2 with (first | refine wpList_alloc_row rfl 24 rfl _ z4w ?_ | (refine wpList_store_R rfl 24 _ _ rfl _ (ec n1) (congrArg (fun g => Value.pointer (some ⟨g, 0, none⟩)) hgq) rfl (hq.row (i := 3) rfl) (ie4 _) rfl (ec_all _) ?_; intro wz q hg hz))
  replace h : Fr w wz [(w.heap.size, 56, fc A B M), ((w.heap.size + 1), 56, fc D E N), ((w.heap.size + 1 + 1), 56, fc 0 0 0), (g5, 24, ec n1)] := hq.put (i := 3) rfl q hg
  try rw [hgq]
  clear q hg hz hq hgq
  go_wp2_with (first | refine wpList_load_row rfl 24 _ rfl _ rfl _ _ _ _ (h.row (i := 3) rfl) Tryd.underlying24 rfl (ie4 _) ?_)
  refine (cn2 _).mono ?_
  rintro _ wn ⟨rfl, hb⟩
  replace h := h.below hb
  clear hb
  obtain ⟨g6, hgq, hq⟩ := h.more 4 24 (ec 0)
  replace hq : Fr w _ [(w.heap.size, 56, fc A B M), ((w.heap.size + 1), 56, fc D E N), ((w.heap.size + 1 + 1), 56, fc 0 0 0), (g5, 24, ec n1), (g6, 24, ec 0)] := hq
  go_upto_region 3 with (first | refine wpList_alloc_row rfl 24 rfl _ z4w ?_ | (refine wpList_store_R rfl 24 _ _ rfl _ (ec n2) (congrArg (fun g => Value.pointer (some ⟨g, 0, none⟩)) hgq) rfl (hq.row (i := 4) rfl) (ie4 _) rfl (ec_all _) ?_; intro wz q hg hz))
  replace h : Fr w wz [(w.heap.size, 56, fc A B M), ((w.heap.size + 1), 56, fc D E N), ((w.heap.size + 1 + 1), 56, fc 0 0 0), (g5, 24, ec n1), (g6, 24, ec n2)] := hq.put (i := 4) rfl q hg
  try rw [hgq]
  clear q hg hz hq hgq
  try simp only [Act.put, List.setIfInBounds_toArray, List.set_cons_zero, List.set_cons_succ]
  replace h := h.drew
  go_cut [7, 8] (fun v7 v8 wc => ∃ g7 g8, v7 = .pointer (some ⟨g7, 0, none⟩) ∧ v8 = .pointer (some ⟨g8, 0, none⟩) ∧ Fr w wc [(w.heap.size, 56, fc A B M), ((w.heap.size + 1), 56, fc D E N), ((w.heap.size + 1 + 1), 56, fc 0 0 0), (g5, 24, ec n1), (g6, 24, ec n2), (g7, 24, ec n3), (g8, 24, ec n4)])
  case first =>
    refine wp_region_noPanic ?_
    refine wp_region_held_drew (S := fun w' => Row w' w.heap.size 56 (fc A B M) ∧ Row w' (w.heap.size + 1) 56 (fc D E N)) (by kernel_rfl) ⟨h.row (i := 0) rfl, h.row (i := 1) rfl⟩ (fun hHeld => ?_)
    refine wpAnyH_takeL (i := 0) (v := ?vt1) rfl (by kernel_rfl) (by kernel_rfl) (by kernel_rfl) (fun _ _ _ h => h) (by rfl) ?ht1 (by assumption) ?_
    case ht1 => intro w hSw; go_simp <;> with_reducible rfl
    simp only [Act.put, List.setIfInBounds_toArray, List.set_cons_zero, List.set_cons_succ]
    refine wpAnyH_takeL (i := 1) (v := (.agg (ec A).toArray)) rfl (by kernel_rfl) (by kernel_rfl) (by kernel_rfl) (fun _ _ _ h => h) (by rfl) ?ht2 (by assumption) ?_
    case ht2 => intro w hSw; exact exec_load_at 24 _ rfl rfl (fc_x hSw.1) rfl Tryd.underlying24 (ie4 _)
    simp only [Act.put, List.setIfInBounds_toArray, List.set_cons_zero, List.set_cons_succ]
    refine wpAnyH_takeL (i := 2) (v := ?vt3) rfl (by kernel_rfl) (by kernel_rfl) (by kernel_rfl) (fun _ _ _ h => h) (by rfl) ?ht3 (by assumption) ?_
    case ht3 => intro w hSw; go_simp <;> with_reducible rfl
    simp only [Act.put, List.setIfInBounds_toArray, List.set_cons_zero, List.set_cons_succ]
    refine wpAnyH_takeL (i := 3) (v := (.agg (ec D).toArray)) rfl (by kernel_rfl) (by kernel_rfl) (by kernel_rfl) (fun _ _ _ h => h) (by rfl) ?ht4 (by assumption) ?_
    case ht4 => intro w hSw; exact exec_load_at 24 _ rfl rfl (fc_x hSw.2) rfl Tryd.underlying24 (ie4 _)
    simp only [Act.put, List.setIfInBounds_toArray, List.set_cons_zero, List.set_cons_succ]
    refine wpAnyH_takeL (i := 5) (v := ?vt5) rfl (by kernel_rfl) (by kernel_rfl) (by kernel_rfl) (fun _ _ _ h => h) (by rfl) ?ht5 (by assumption) ?_
    case ht5 => intro w hSw; go_simp <;> with_reducible rfl
    simp only [Act.put, List.setIfInBounds_toArray, List.set_cons_zero, List.set_cons_succ]
    refine wpAnyH_takeL (i := 6) (v := (.agg (ec B).toArray)) rfl (by kernel_rfl) (by kernel_rfl) (by kernel_rfl) (fun _ _ _ h => h) (by rfl) ?ht6 (by assumption) ?_
    case ht6 => intro w hSw; exact exec_load_at 24 _ rfl rfl (fc_y hSw.1) rfl Tryd.underlying24 (ie4 _)
    simp only [Act.put, List.setIfInBounds_toArray, List.set_cons_zero, List.set_cons_succ]
    refine wpAnyH_takeL (i := 7) (v := ?vt7) rfl (by kernel_rfl) (by kernel_rfl) (by kernel_rfl) (fun _ _ _ h => h) (by rfl) ?ht7 (by assumption) ?_
    case ht7 => intro w hSw; go_simp <;> with_reducible rfl
    simp only [Act.put, List.setIfInBounds_toArray, List.set_cons_zero, List.set_cons_succ]
    refine wpAnyH_takeL (i := 8) (v := (.agg (ec E).toArray)) rfl (by kernel_rfl) (by kernel_rfl) (by kernel_rfl) (fun _ _ _ h => h) (by rfl) ?ht8 (by assumption) ?_
    case ht8 => intro w hSw; exact exec_load_at 24 _ rfl rfl (fc_y hSw.2) rfl Tryd.underlying24 (ie4 _)
    simp only [Act.put, List.setIfInBounds_toArray, List.set_cons_zero, List.set_cons_succ]
    refine ready_threeL (i := 4) (j := 10) (k := 11) (by kernel_rfl) rfl rfl rfl (by rfl) (by rfl) (by rfl) (fun K hK => ?_) (fun K hK => ?_) (fun K hK => ?_)
    · go_simp
      refine (cn3 _).mono ?_
      rintro _ wn ⟨rfl, hb⟩
      replace h := h.below hb
      clear hb
      refine hK.out _ _ ⟨h.row (i := 0) rfl, h.row (i := 1) rfl⟩ (fun hHeld => ?_)
      clear hK K
      refine ready_threeL (i := 9) (j := 10) (k := 11) (by kernel_rfl) rfl rfl rfl (by rfl) (by rfl) (by rfl) (fun K hK => ?_) (fun K hK => ?_) (fun K hK => ?_)
      · go_simp
        refine (cn4 _).mono ?_
        rintro _ wn ⟨rfl, hb⟩
        replace h := h.below hb
        clear hb
        refine hK.out _ _ ⟨h.row (i := 0) rfl, h.row (i := 1) rfl⟩ (fun hHeld => ?_)
        clear hK K
        refine ready_twoL (i := 10) (j := 11) (by kernel_rfl) rfl rfl (by rfl) (by rfl) (fun K hK => ?_) (fun K hK => ?_)
        · refine wp_alloc_R 24 rfl (ec 0) z4w ?_
          obtain ⟨g7, hgq, hq⟩ := h.more 5 24 (ec 0)
          replace h : Fr w _ [(w.heap.size, 56, fc A B M), ((w.heap.size + 1), 56, fc D E N), ((w.heap.size + 1 + 1), 56, fc 0 0 0), (g5, 24, ec n1), (g6, 24, ec n2), (g7, 24, ec 0)] := hq
          rw [hgq]
          clear hgq hq
          refine hK.out _ _ ⟨h.row (i := 0) rfl, h.row (i := 1) rfl⟩ (fun hHeld => ?_)
          clear hK K
          refine allReadyH_oneL (i := 11) (by kernel_rfl) rfl (by rfl) (fun K hK => ?_)
          refine wp_alloc_R 24 rfl (ec 0) z4w ?_
          obtain ⟨g8, hgq, hq⟩ := h.more 6 24 (ec 0)
          replace h : Fr w _ [(w.heap.size, 56, fc A B M), ((w.heap.size + 1), 56, fc D E N), ((w.heap.size + 1 + 1), 56, fc 0 0 0), (g5, 24, ec n1), (g6, 24, ec n2), (g7, 24, ec 0), (g8, 24, ec 0)] := hq
          rw [hgq]
          clear hgq hq
          refine hK.out _ _ ⟨h.row (i := 0) rfl, h.row (i := 1) rfl⟩ (fun hHeld => ?_)
          clear hK K
          refine allReadyH_oneL (i := 12) (by kernel_rfl) rfl (by rfl) (fun K hK => ?_)
          refine wp_store_R 24 _ _ rfl _ (ec n3) rfl rfl (h.row (i := 5) rfl) (ie4 _) rfl (ec_all _) ?_
          intro wz q hg hz
          replace h : Fr w wz [(w.heap.size, 56, fc A B M), ((w.heap.size + 1), 56, fc D E N), ((w.heap.size + 1 + 1), 56, fc 0 0 0), (g5, 24, ec n1), (g6, 24, ec n2), (g7, 24, ec n3), (g8, 24, ec 0)] := h.put (i := 5) rfl q hg
          clear q hg hz
          refine hK.out _ _ ⟨h.row (i := 0) rfl, h.row (i := 1) rfl⟩ (fun hHeld => ?_)
          clear hK K
          refine allReadyH_oneL (i := 13) (by kernel_rfl) rfl (by rfl) (fun K hK => ?_)
          refine wp_store_R 24 _ _ rfl _ (ec n4) rfl rfl (h.row (i := 6) rfl) (ie4 _) rfl (ec_all _) ?_
          intro wz q hg hz
          replace h : Fr w wz [(w.heap.size, 56, fc A B M), ((w.heap.size + 1), 56, fc D E N), ((w.heap.size + 1 + 1), 56, fc 0 0 0), (g5, 24, ec n1), (g6, 24, ec n2), (g7, 24, ec n3), (g8, 24, ec n4)] := h.put (i := 6) rfl q hg
          clear q hg hz
          refine hK.out _ _ ⟨h.row (i := 0) rfl, h.row (i := 1) rfl⟩ (fun hHeld => ?_)
          clear hK K
          refine wpAnyH_done (by kernel_rfl) ?_ _
          refine NoPanic.normal ?_
          go_wp2
          go_meet
          case rel => exact ⟨_, _, rfl, rfl, h⟩
        · refine wp_alloc_R 24 rfl (ec 0) z4w ?_
          obtain ⟨g8, hgq, hq⟩ := h.more 5 24 (ec 0)
          replace h : Fr w _ [(w.heap.size, 56, fc A B M), ((w.heap.size + 1), 56, fc D E N), ((w.heap.size + 1 + 1), 56, fc 0 0 0), (g5, 24, ec n1), (g6, 24, ec n2), (g8, 24, ec 0)] := hq
          rw [hgq]
          clear hgq hq
          refine hK.out _ _ ⟨h.row (i := 0) rfl, h.row (i := 1) rfl⟩ (fun hHeld => ?_)
          clear hK K
          refine allReadyH_oneL (i := 10) (by kernel_rfl) rfl (by rfl) (fun K hK => ?_)
          refine wp_alloc_R 24 rfl (ec 0) z4w ?_
          obtain ⟨g7, hgq, hq⟩ := h.more 5 24 (ec 0)
          replace h : Fr w _ [(w.heap.size, 56, fc A B M), ((w.heap.size + 1), 56, fc D E N), ((w.heap.size + 1 + 1), 56, fc 0 0 0), (g5, 24, ec n1), (g6, 24, ec n2), (g7, 24, ec 0), (g8, 24, ec 0)] := hq
          rw [hgq]
          clear hgq hq
          refine hK.out _ _ ⟨h.row (i := 0) rfl, h.row (i := 1) rfl⟩ (fun hHeld => ?_)
          clear hK K
          refine allReadyH_oneL (i := 12) (by kernel_rfl) rfl (by rfl) (fun K hK => ?_)
          refine wp_store_R 24 _ _ rfl _ (ec n3) rfl rfl (h.row (i := 5) rfl) (ie4 _) rfl (ec_all _) ?_
          intro wz q hg hz
          replace h : Fr w wz [(w.heap.size, 56, fc A B M), ((w.heap.size + 1), 56, fc D E N), ((w.heap.size + 1 + 1), 56, fc 0 0 0), (g5, 24, ec n1), (g6, 24, ec n2), (g7, 24, ec n3), (g8, 24, ec 0)] := h.put (i := 5) rfl q hg
          clear q hg hz
          refine hK.out _ _ ⟨h.row (i := 0) rfl, h.row (i := 1) rfl⟩ (fun hHeld => ?_)
          clear hK K
          refine allReadyH_oneL (i := 13) (by kernel_rfl) rfl (by rfl) (fun K hK => ?_)
          refine wp_store_R 24 _ _ rfl _ (ec n4) rfl rfl (h.row (i := 6) rfl) (ie4 _) rfl (ec_all _) ?_
          intro wz q hg hz
          replace h : Fr w wz [(w.heap.size, 56, fc A B M), ((w.heap.size + 1), 56, fc D E N), ((w.heap.size + 1 + 1), 56, fc 0 0 0), (g5, 24, ec n1), (g6, 24, ec n2), (g7, 24, ec n3), (g8, 24, ec n4)] := h.put (i := 6) rfl q hg
          clear q hg hz
          refine hK.out _ _ ⟨h.row (i := 0) rfl, h.row (i := 1) rfl⟩ (fun hHeld => ?_)
          clear hK K
          refine wpAnyH_done (by kernel_rfl) ?_ _
          refine NoPanic.normal ?_
          go_wp2
          go_meet
          case rel => exact ⟨_, _, rfl, rfl, h⟩
      · refine wp_alloc_R 24 rfl (ec 0) z4w ?_
        obtain ⟨g7, hgq, hq⟩ := h.more 5 24 (ec 0)
        replace h : Fr w _ [(w.heap.size, 56, fc A B M), ((w.heap.size + 1), 56, fc D E N), ((w.heap.size + 1 + 1), 56, fc 0 0 0), (g5, 24, ec n1), (g6, 24, ec n2), (g7, 24, ec 0)] := hq
        rw [hgq]
        clear hgq hq
        refine hK.out _ _ ⟨h.row (i := 0) rfl, h.row (i := 1) rfl⟩ (fun hHeld => ?_)
        clear hK K
        refine ready_twoL (i := 9) (j := 11) (by kernel_rfl) rfl rfl (by rfl) (by rfl) (fun K hK => ?_) (fun K hK => ?_)
        · go_simp
          refine (cn4 _).mono ?_
          rintro _ wn ⟨rfl, hb⟩
          replace h := h.below hb
          clear hb
          refine hK.out _ _ ⟨h.row (i := 0) rfl, h.row (i := 1) rfl⟩ (fun hHeld => ?_)
          clear hK K
          refine allReadyH_oneL (i := 11) (by kernel_rfl) rfl (by rfl) (fun K hK => ?_)
          refine wp_alloc_R 24 rfl (ec 0) z4w ?_
          obtain ⟨g8, hgq, hq⟩ := h.more 6 24 (ec 0)
          replace h : Fr w _ [(w.heap.size, 56, fc A B M), ((w.heap.size + 1), 56, fc D E N), ((w.heap.size + 1 + 1), 56, fc 0 0 0), (g5, 24, ec n1), (g6, 24, ec n2), (g7, 24, ec 0), (g8, 24, ec 0)] := hq
          rw [hgq]
          clear hgq hq
          refine hK.out _ _ ⟨h.row (i := 0) rfl, h.row (i := 1) rfl⟩ (fun hHeld => ?_)
          clear hK K
          refine allReadyH_oneL (i := 12) (by kernel_rfl) rfl (by rfl) (fun K hK => ?_)
          refine wp_store_R 24 _ _ rfl _ (ec n3) rfl rfl (h.row (i := 5) rfl) (ie4 _) rfl (ec_all _) ?_
          intro wz q hg hz
          replace h : Fr w wz [(w.heap.size, 56, fc A B M), ((w.heap.size + 1), 56, fc D E N), ((w.heap.size + 1 + 1), 56, fc 0 0 0), (g5, 24, ec n1), (g6, 24, ec n2), (g7, 24, ec n3), (g8, 24, ec 0)] := h.put (i := 5) rfl q hg
          clear q hg hz
          refine hK.out _ _ ⟨h.row (i := 0) rfl, h.row (i := 1) rfl⟩ (fun hHeld => ?_)
          clear hK K
          refine allReadyH_oneL (i := 13) (by kernel_rfl) rfl (by rfl) (fun K hK => ?_)
          refine wp_store_R 24 _ _ rfl _ (ec n4) rfl rfl (h.row (i := 6) rfl) (ie4 _) rfl (ec_all _) ?_
          intro wz q hg hz
          replace h : Fr w wz [(w.heap.size, 56, fc A B M), ((w.heap.size + 1), 56, fc D E N), ((w.heap.size + 1 + 1), 56, fc 0 0 0), (g5, 24, ec n1), (g6, 24, ec n2), (g7, 24, ec n3), (g8, 24, ec n4)] := h.put (i := 6) rfl q hg
          clear q hg hz
          refine hK.out _ _ ⟨h.row (i := 0) rfl, h.row (i := 1) rfl⟩ (fun hHeld => ?_)
          clear hK K
          refine wpAnyH_done (by kernel_rfl) ?_ _
          refine NoPanic.normal ?_
          go_wp2
          go_meet
          case rel => exact ⟨_, _, rfl, rfl, h⟩
        · refine wp_alloc_R 24 rfl (ec 0) z4w ?_
          obtain ⟨g8, hgq, hq⟩ := h.more 6 24 (ec 0)
          replace h : Fr w _ [(w.heap.size, 56, fc A B M), ((w.heap.size + 1), 56, fc D E N), ((w.heap.size + 1 + 1), 56, fc 0 0 0), (g5, 24, ec n1), (g6, 24, ec n2), (g7, 24, ec 0), (g8, 24, ec 0)] := hq
          rw [hgq]
          clear hgq hq
          refine hK.out _ _ ⟨h.row (i := 0) rfl, h.row (i := 1) rfl⟩ (fun hHeld => ?_)
          clear hK K
          refine allReadyH_oneL (i := 9) (by kernel_rfl) rfl (by rfl) (fun K hK => ?_)
          go_simp
          refine (cn4 _).mono ?_
          rintro _ wn ⟨rfl, hb⟩
          replace h := h.below hb
          clear hb
          refine hK.out _ _ ⟨h.row (i := 0) rfl, h.row (i := 1) rfl⟩ (fun hHeld => ?_)
          clear hK K
          refine allReadyH_oneL (i := 12) (by kernel_rfl) rfl (by rfl) (fun K hK => ?_)
          refine wp_store_R 24 _ _ rfl _ (ec n3) rfl rfl (h.row (i := 5) rfl) (ie4 _) rfl (ec_all _) ?_
          intro wz q hg hz
          replace h : Fr w wz [(w.heap.size, 56, fc A B M), ((w.heap.size + 1), 56, fc D E N), ((w.heap.size + 1 + 1), 56, fc 0 0 0), (g5, 24, ec n1), (g6, 24, ec n2), (g7, 24, ec n3), (g8, 24, ec 0)] := h.put (i := 5) rfl q hg
          clear q hg hz
          refine hK.out _ _ ⟨h.row (i := 0) rfl, h.row (i := 1) rfl⟩ (fun hHeld => ?_)
          clear hK K
          refine allReadyH_oneL (i := 13) (by kernel_rfl) rfl (by rfl) (fun K hK => ?_)
          refine wp_store_R 24 _ _ rfl _ (ec n4) rfl rfl (h.row (i := 6) rfl) (ie4 _) rfl (ec_all _) ?_
          intro wz q hg hz
          replace h : Fr w wz [(w.heap.size, 56, fc A B M), ((w.heap.size + 1), 56, fc D E N), ((w.heap.size + 1 + 1), 56, fc 0 0 0), (g5, 24, ec n1), (g6, 24, ec n2), (g7, 24, ec n3), (g8, 24, ec n4)] := h.put (i := 6) rfl q hg
          clear q hg hz
          refine hK.out _ _ ⟨h.row (i := 0) rfl, h.row (i := 1) rfl⟩ (fun hHeld => ?_)
          clear hK K
          refine wpAnyH_done (by kernel_rfl) ?_ _
          refine NoPanic.normal ?_
          go_wp2
          go_meet
          case rel => exact ⟨_, _, rfl, rfl, h⟩
      · refine wp_alloc_R 24 rfl (ec 0) z4w ?_
        obtain ⟨g8, hgq, hq⟩ := h.more 5 24 (ec 0)
        replace h : Fr w _ [(w.heap.size, 56, fc A B M), ((w.heap.size + 1), 56, fc D E N), ((w.heap.size + 1 + 1), 56, fc 0 0 0), (g5, 24, ec n1), (g6, 24, ec n2), (g8, 24, ec 0)] := hq
        rw [hgq]
        clear hgq hq
        refine hK.out _ _ ⟨h.row (i := 0) rfl, h.row (i := 1) rfl⟩ (fun hHeld => ?_)
        clear hK K
        refine ready_twoL (i := 9) (j := 10) (by kernel_rfl) rfl rfl (by rfl) (by rfl) (fun K hK => ?_) (fun K hK => ?_)
        · go_simp
          refine (cn4 _).mono ?_
          rintro _ wn ⟨rfl, hb⟩
          replace h := h.below hb
          clear hb
          refine hK.out _ _ ⟨h.row (i := 0) rfl, h.row (i := 1) rfl⟩ (fun hHeld => ?_)
          clear hK K
          refine allReadyH_oneL (i := 10) (by kernel_rfl) rfl (by rfl) (fun K hK => ?_)
          refine wp_alloc_R 24 rfl (ec 0) z4w ?_
          obtain ⟨g7, hgq, hq⟩ := h.more 5 24 (ec 0)
          replace h : Fr w _ [(w.heap.size, 56, fc A B M), ((w.heap.size + 1), 56, fc D E N), ((w.heap.size + 1 + 1), 56, fc 0 0 0), (g5, 24, ec n1), (g6, 24, ec n2), (g7, 24, ec 0), (g8, 24, ec 0)] := hq
          rw [hgq]
          clear hgq hq
          refine hK.out _ _ ⟨h.row (i := 0) rfl, h.row (i := 1) rfl⟩ (fun hHeld => ?_)
          clear hK K
          refine allReadyH_oneL (i := 12) (by kernel_rfl) rfl (by rfl) (fun K hK => ?_)
          refine wp_store_R 24 _ _ rfl _ (ec n3) rfl rfl (h.row (i := 5) rfl) (ie4 _) rfl (ec_all _) ?_
          intro wz q hg hz
          replace h : Fr w wz [(w.heap.size, 56, fc A B M), ((w.heap.size + 1), 56, fc D E N), ((w.heap.size + 1 + 1), 56, fc 0 0 0), (g5, 24, ec n1), (g6, 24, ec n2), (g7, 24, ec n3), (g8, 24, ec 0)] := h.put (i := 5) rfl q hg
          clear q hg hz
          refine hK.out _ _ ⟨h.row (i := 0) rfl, h.row (i := 1) rfl⟩ (fun hHeld => ?_)
          clear hK K
          refine allReadyH_oneL (i := 13) (by kernel_rfl) rfl (by rfl) (fun K hK => ?_)
          refine wp_store_R 24 _ _ rfl _ (ec n4) rfl rfl (h.row (i := 6) rfl) (ie4 _) rfl (ec_all _) ?_
          intro wz q hg hz
          replace h : Fr w wz [(w.heap.size, 56, fc A B M), ((w.heap.size + 1), 56, fc D E N), ((w.heap.size + 1 + 1), 56, fc 0 0 0), (g5, 24, ec n1), (g6, 24, ec n2), (g7, 24, ec n3), (g8, 24, ec n4)] := h.put (i := 6) rfl q hg
          clear q hg hz
          refine hK.out _ _ ⟨h.row (i := 0) rfl, h.row (i := 1) rfl⟩ (fun hHeld => ?_)
          clear hK K
          refine wpAnyH_done (by kernel_rfl) ?_ _
          refine NoPanic.normal ?_
          go_wp2
          go_meet
          case rel => exact ⟨_, _, rfl, rfl, h⟩
        · refine wp_alloc_R 24 rfl (ec 0) z4w ?_
          obtain ⟨g7, hgq, hq⟩ := h.more 5 24 (ec 0)
          replace h : Fr w _ [(w.heap.size, 56, fc A B M), ((w.heap.size + 1), 56, fc D E N), ((w.heap.size + 1 + 1), 56, fc 0 0 0), (g5, 24, ec n1), (g6, 24, ec n2), (g7, 24, ec 0), (g8, 24, ec 0)] := hq
          rw [hgq]
          clear hgq hq
          refine hK.out _ _ ⟨h.row (i := 0) rfl, h.row (i := 1) rfl⟩ (fun hHeld => ?_)
          clear hK K
          refine allReadyH_oneL (i := 9) (by kernel_rfl) rfl (by rfl) (fun K hK => ?_)
          go_simp
          refine (cn4 _).mono ?_
          rintro _ wn ⟨rfl, hb⟩
          replace h := h.below hb
          clear hb
          refine hK.out _ _ ⟨h.row (i := 0) rfl, h.row (i := 1) rfl⟩ (fun hHeld => ?_)
          clear hK K
          refine allReadyH_oneL (i := 12) (by kernel_rfl) rfl (by rfl) (fun K hK => ?_)
          refine wp_store_R 24 _ _ rfl _ (ec n3) rfl rfl (h.row (i := 5) rfl) (ie4 _) rfl (ec_all _) ?_
          intro wz q hg hz
          replace h : Fr w wz [(w.heap.size, 56, fc A B M), ((w.heap.size + 1), 56, fc D E N), ((w.heap.size + 1 + 1), 56, fc 0 0 0), (g5, 24, ec n1), (g6, 24, ec n2), (g7, 24, ec n3), (g8, 24, ec 0)] := h.put (i := 5) rfl q hg
          clear q hg hz
          refine hK.out _ _ ⟨h.row (i := 0) rfl, h.row (i := 1) rfl⟩ (fun hHeld => ?_)
          clear hK K
          refine allReadyH_oneL (i := 13) (by kernel_rfl) rfl (by rfl) (fun K hK => ?_)
          refine wp_store_R 24 _ _ rfl _ (ec n4) rfl rfl (h.row (i := 6) rfl) (ie4 _) rfl (ec_all _) ?_
          intro wz q hg hz
          replace h : Fr w wz [(w.heap.size, 56, fc A B M), ((w.heap.size + 1), 56, fc D E N), ((w.heap.size + 1 + 1), 56, fc 0 0 0), (g5, 24, ec n1), (g6, 24, ec n2), (g7, 24, ec n3), (g8, 24, ec n4)] := h.put (i := 6) rfl q hg
          clear q hg hz
          refine hK.out _ _ ⟨h.row (i := 0) rfl, h.row (i := 1) rfl⟩ (fun hHeld => ?_)
          clear hK K
          refine wpAnyH_done (by kernel_rfl) ?_ _
          refine NoPanic.normal ?_
          go_wp2
          go_meet
          case rel => exact ⟨_, _, rfl, rfl, h⟩
    · refine wp_alloc_R 24 rfl (ec 0) z4w ?_
      obtain ⟨g7, hgq, hq⟩ := h.more 5 24 (ec 0)
      replace h : Fr w _ [(w.heap.size, 56, fc A B M), ((w.heap.size + 1), 56, fc D E N), ((w.heap.size + 1 + 1), 56, fc 0 0 0), (g5, 24, ec n1), (g6, 24, ec n2), (g7, 24, ec 0)] := hq
      rw [hgq]
      clear hgq hq
      refine hK.out _ _ ⟨h.row (i := 0) rfl, h.row (i := 1) rfl⟩ (fun hHeld => ?_)
      clear hK K
      refine ready_twoL (i := 4) (j := 11) (by kernel_rfl) rfl rfl (by rfl) (by rfl) (fun K hK => ?_) (fun K hK => ?_)
      · go_simp
        refine (cn3 _).mono ?_
        rintro _ wn ⟨rfl, hb⟩
        replace h := h.below hb
        clear hb
        refine hK.out _ _ ⟨h.row (i := 0) rfl, h.row (i := 1) rfl⟩ (fun hHeld => ?_)
        clear hK K
        refine ready_twoL (i := 9) (j := 11) (by kernel_rfl) rfl rfl (by rfl) (by rfl) (fun K hK => ?_) (fun K hK => ?_)
        · go_simp
          refine (cn4 _).mono ?_
          rintro _ wn ⟨rfl, hb⟩
          replace h := h.below hb
          clear hb
          refine hK.out _ _ ⟨h.row (i := 0) rfl, h.row (i := 1) rfl⟩ (fun hHeld => ?_)
          clear hK K
          refine allReadyH_oneL (i := 11) (by kernel_rfl) rfl (by rfl) (fun K hK => ?_)
          refine wp_alloc_R 24 rfl (ec 0) z4w ?_
          obtain ⟨g8, hgq, hq⟩ := h.more 6 24 (ec 0)
          replace h : Fr w _ [(w.heap.size, 56, fc A B M), ((w.heap.size + 1), 56, fc D E N), ((w.heap.size + 1 + 1), 56, fc 0 0 0), (g5, 24, ec n1), (g6, 24, ec n2), (g7, 24, ec 0), (g8, 24, ec 0)] := hq
          rw [hgq]
          clear hgq hq
          refine hK.out _ _ ⟨h.row (i := 0) rfl, h.row (i := 1) rfl⟩ (fun hHeld => ?_)
          clear hK K
          refine allReadyH_oneL (i := 12) (by kernel_rfl) rfl (by rfl) (fun K hK => ?_)
          refine wp_store_R 24 _ _ rfl _ (ec n3) rfl rfl (h.row (i := 5) rfl) (ie4 _) rfl (ec_all _) ?_
          intro wz q hg hz
          replace h : Fr w wz [(w.heap.size, 56, fc A B M), ((w.heap.size + 1), 56, fc D E N), ((w.heap.size + 1 + 1), 56, fc 0 0 0), (g5, 24, ec n1), (g6, 24, ec n2), (g7, 24, ec n3), (g8, 24, ec 0)] := h.put (i := 5) rfl q hg
          clear q hg hz
          refine hK.out _ _ ⟨h.row (i := 0) rfl, h.row (i := 1) rfl⟩ (fun hHeld => ?_)
          clear hK K
          refine allReadyH_oneL (i := 13) (by kernel_rfl) rfl (by rfl) (fun K hK => ?_)
          refine wp_store_R 24 _ _ rfl _ (ec n4) rfl rfl (h.row (i := 6) rfl) (ie4 _) rfl (ec_all _) ?_
          intro wz q hg hz
          replace h : Fr w wz [(w.heap.size, 56, fc A B M), ((w.heap.size + 1), 56, fc D E N), ((w.heap.size + 1 + 1), 56, fc 0 0 0), (g5, 24, ec n1), (g6, 24, ec n2), (g7, 24, ec n3), (g8, 24, ec n4)] := h.put (i := 6) rfl q hg
          clear q hg hz
          refine hK.out _ _ ⟨h.row (i := 0) rfl, h.row (i := 1) rfl⟩ (fun hHeld => ?_)
          clear hK K
          refine wpAnyH_done (by kernel_rfl) ?_ _
          refine NoPanic.normal ?_
          go_wp2
          go_meet
          case rel => exact ⟨_, _, rfl, rfl, h⟩
        · refine wp_alloc_R 24 rfl (ec 0) z4w ?_
          obtain ⟨g8, hgq, hq⟩ := h.more 6 24 (ec 0)
          replace h : Fr w _ [(w.heap.size, 56, fc A B M), ((w.heap.size + 1), 56, fc D E N), ((w.heap.size + 1 + 1), 56, fc 0 0 0), (g5, 24, ec n1), (g6, 24, ec n2), (g7, 24, ec 0), (g8, 24, ec 0)] := hq
          rw [hgq]
          clear hgq hq
          refine hK.out _ _ ⟨h.row (i := 0) rfl, h.row (i := 1) rfl⟩ (fun hHeld => ?_)
          clear hK K
          refine allReadyH_oneL (i := 9) (by kernel_rfl) rfl (by rfl) (fun K hK => ?_)
          go_simp
          refine (cn4 _).mono ?_
          rintro _ wn ⟨rfl, hb⟩
          replace h := h.below hb
          clear hb
          refine hK.out _ _ ⟨h.row (i := 0) rfl, h.row (i := 1) rfl⟩ (fun hHeld => ?_)
          clear hK K
          refine allReadyH_oneL (i := 12) (by kernel_rfl) rfl (by rfl) (fun K hK => ?_)
          refine wp_store_R 24 _ _ rfl _ (ec n3) rfl rfl (h.row (i := 5) rfl) (ie4 _) rfl (ec_all _) ?_
          intro wz q hg hz
          replace h : Fr w wz [(w.heap.size, 56, fc A B M), ((w.heap.size + 1), 56, fc D E N), ((w.heap.size + 1 + 1), 56, fc 0 0 0), (g5, 24, ec n1), (g6, 24, ec n2), (g7, 24, ec n3), (g8, 24, ec 0)] := h.put (i := 5) rfl q hg
          clear q hg hz
          refine hK.out _ _ ⟨h.row (i := 0) rfl, h.row (i := 1) rfl⟩ (fun hHeld => ?_)
          clear hK K
          refine allReadyH_oneL (i := 13) (by kernel_rfl) rfl (by rfl) (fun K hK => ?_)
          refine wp_store_R 24 _ _ rfl _ (ec n4) rfl rfl (h.row (i := 6) rfl) (ie4 _) rfl (ec_all _) ?_
          intro wz q hg hz
          replace h : Fr w wz [(w.heap.size, 56, fc A B M), ((w.heap.size + 1), 56, fc D E N), ((w.heap.size + 1 + 1), 56, fc 0 0 0), (g5, 24, ec n1), (g6, 24, ec n2), (g7, 24, ec n3), (g8, 24, ec n4)] := h.put (i := 6) rfl q hg
          clear q hg hz
          refine hK.out _ _ ⟨h.row (i := 0) rfl, h.row (i := 1) rfl⟩ (fun hHeld => ?_)
          clear hK K
          refine wpAnyH_done (by kernel_rfl) ?_ _
          refine NoPanic.normal ?_
          go_wp2
          go_meet
          case rel => exact ⟨_, _, rfl, rfl, h⟩
      · refine wp_alloc_R 24 rfl (ec 0) z4w ?_
        obtain ⟨g8, hgq, hq⟩ := h.more 6 24 (ec 0)
        replace h : Fr w _ [(w.heap.size, 56, fc A B M), ((w.heap.size + 1), 56, fc D E N), ((w.heap.size + 1 + 1), 56, fc 0 0 0), (g5, 24, ec n1), (g6, 24, ec n2), (g7, 24, ec 0), (g8, 24, ec 0)] := hq
        rw [hgq]
        clear hgq hq
        refine hK.out _ _ ⟨h.row (i := 0) rfl, h.row (i := 1) rfl⟩ (fun hHeld => ?_)
        clear hK K
        refine allReadyH_oneL (i := 4) (by kernel_rfl) rfl (by rfl) (fun K hK => ?_)
        go_simp
        refine (cn3 _).mono ?_
        rintro _ wn ⟨rfl, hb⟩
        replace h := h.below hb
        clear hb
        refine hK.out _ _ ⟨h.row (i := 0) rfl, h.row (i := 1) rfl⟩ (fun hHeld => ?_)
        clear hK K
        refine allReadyH_oneL (i := 9) (by kernel_rfl) rfl (by rfl) (fun K hK => ?_)
        go_simp
        refine (cn4 _).mono ?_
        rintro _ wn ⟨rfl, hb⟩
        replace h := h.below hb
        clear hb
        refine hK.out _ _ ⟨h.row (i := 0) rfl, h.row (i := 1) rfl⟩ (fun hHeld => ?_)
        clear hK K
        refine allReadyH_oneL (i := 12) (by kernel_rfl) rfl (by rfl) (fun K hK => ?_)
        refine wp_store_R 24 _ _ rfl _ (ec n3) rfl rfl (h.row (i := 5) rfl) (ie4 _) rfl (ec_all _) ?_
        intro wz q hg hz
        replace h : Fr w wz [(w.heap.size, 56, fc A B M), ((w.heap.size + 1), 56, fc D E N), ((w.heap.size + 1 + 1), 56, fc 0 0 0), (g5, 24, ec n1), (g6, 24, ec n2), (g7, 24, ec n3), (g8, 24, ec 0)] := h.put (i := 5) rfl q hg
        clear q hg hz
        refine hK.out _ _ ⟨h.row (i := 0) rfl, h.row (i := 1) rfl⟩ (fun hHeld => ?_)
        clear hK K
        refine allReadyH_oneL (i := 13) (by kernel_rfl) rfl (by rfl) (fun K hK => ?_)
        refine wp_store_R 24 _ _ rfl _ (ec n4) rfl rfl (h.row (i := 6) rfl) (ie4 _) rfl (ec_all _) ?_
        intro wz q hg hz
        replace h : Fr w wz [(w.heap.size, 56, fc A B M), ((w.heap.size + 1), 56, fc D E N), ((w.heap.size + 1 + 1), 56, fc 0 0 0), (g5, 24, ec n1), (g6, 24, ec n2), (g7, 24, ec n3), (g8, 24, ec n4)] := h.put (i := 6) rfl q hg
        clear q hg hz
        refine hK.out _ _ ⟨h.row (i := 0) rfl, h.row (i := 1) rfl⟩ (fun hHeld => ?_)
        clear hK K
        refine wpAnyH_done (by kernel_rfl) ?_ _
        refine NoPanic.normal ?_
        go_wp2
        go_meet
        case rel => exact ⟨_, _, rfl, rfl, h⟩
    · refine wp_alloc_R 24 rfl (ec 0) z4w ?_
      obtain ⟨g8, hgq, hq⟩ := h.more 5 24 (ec 0)
      replace h : Fr w _ [(w.heap.size, 56, fc A B M), ((w.heap.size + 1), 56, fc D E N), ((w.heap.size + 1 + 1), 56, fc 0 0 0), (g5, 24, ec n1), (g6, 24, ec n2), (g8, 24, ec 0)] := hq
      rw [hgq]
      clear hgq hq
      refine hK.out _ _ ⟨h.row (i := 0) rfl, h.row (i := 1) rfl⟩ (fun hHeld => ?_)
      clear hK K
      refine ready_twoL (i := 4) (j := 10) (by kernel_rfl) rfl rfl (by rfl) (by rfl) (fun K hK => ?_) (fun K hK => ?_)
      · go_simp
        refine (cn3 _).mono ?_
        rintro _ wn ⟨rfl, hb⟩
        replace h := h.below hb
        clear hb
        refine hK.out _ _ ⟨h.row (i := 0) rfl, h.row (i := 1) rfl⟩ (fun hHeld => ?_)
        clear hK K
        refine ready_twoL (i := 9) (j := 10) (by kernel_rfl) rfl rfl (by rfl) (by rfl) (fun K hK => ?_) (fun K hK => ?_)
        · go_simp
          refine (cn4 _).mono ?_
          rintro _ wn ⟨rfl, hb⟩
          replace h := h.below hb
          clear hb
          refine hK.out _ _ ⟨h.row (i := 0) rfl, h.row (i := 1) rfl⟩ (fun hHeld => ?_)
          clear hK K
          refine allReadyH_oneL (i := 10) (by kernel_rfl) rfl (by rfl) (fun K hK => ?_)
          refine wp_alloc_R 24 rfl (ec 0) z4w ?_
          obtain ⟨g7, hgq, hq⟩ := h.more 5 24 (ec 0)
          replace h : Fr w _ [(w.heap.size, 56, fc A B M), ((w.heap.size + 1), 56, fc D E N), ((w.heap.size + 1 + 1), 56, fc 0 0 0), (g5, 24, ec n1), (g6, 24, ec n2), (g7, 24, ec 0), (g8, 24, ec 0)] := hq
          rw [hgq]
          clear hgq hq
          refine hK.out _ _ ⟨h.row (i := 0) rfl, h.row (i := 1) rfl⟩ (fun hHeld => ?_)
          clear hK K
          refine allReadyH_oneL (i := 12) (by kernel_rfl) rfl (by rfl) (fun K hK => ?_)
          refine wp_store_R 24 _ _ rfl _ (ec n3) rfl rfl (h.row (i := 5) rfl) (ie4 _) rfl (ec_all _) ?_
          intro wz q hg hz
          replace h : Fr w wz [(w.heap.size, 56, fc A B M), ((w.heap.size + 1), 56, fc D E N), ((w.heap.size + 1 + 1), 56, fc 0 0 0), (g5, 24, ec n1), (g6, 24, ec n2), (g7, 24, ec n3), (g8, 24, ec 0)] := h.put (i := 5) rfl q hg
          clear q hg hz
          refine hK.out _ _ ⟨h.row (i := 0) rfl, h.row (i := 1) rfl⟩ (fun hHeld => ?_)
          clear hK K
          refine allReadyH_oneL (i := 13) (by kernel_rfl) rfl (by rfl) (fun K hK => ?_)
          refine wp_store_R 24 _ _ rfl _ (ec n4) rfl rfl (h.row (i := 6) rfl) (ie4 _) rfl (ec_all _) ?_
          intro wz q hg hz
          replace h : Fr w wz [(w.heap.size, 56, fc A B M), ((w.heap.size + 1), 56, fc D E N), ((w.heap.size + 1 + 1), 56, fc 0 0 0), (g5, 24, ec n1), (g6, 24, ec n2), (g7, 24, ec n3), (g8, 24, ec n4)] := h.put (i := 6) rfl q hg
          clear q hg hz
          refine hK.out _ _ ⟨h.row (i := 0) rfl, h.row (i := 1) rfl⟩ (fun hHeld => ?_)
          clear hK K
          refine wpAnyH_done (by kernel_rfl) ?_ _
          refine NoPanic.normal ?_
          go_wp2
          go_meet
          case rel => exact ⟨_, _, rfl, rfl, h⟩
        · refine wp_alloc_R 24 rfl (ec 0) z4w ?_
          obtain ⟨g7, hgq, hq⟩ := h.more 5 24 (ec 0)
          replace h : Fr w _ [(w.heap.size, 56, fc A B M), ((w.heap.size + 1), 56, fc D E N), ((w.heap.size + 1 + 1), 56, fc 0 0 0), (g5, 24, ec n1), (g6, 24, ec n2), (g7, 24, ec 0), (g8, 24, ec 0)] := hq
          rw [hgq]
          clear hgq hq
          refine hK.out _ _ ⟨h.row (i := 0) rfl, h.row (i := 1) rfl⟩ (fun hHeld => ?_)
          clear hK K
          refine allReadyH_oneL (i := 9) (by kernel_rfl) rfl (by rfl) (fun K hK => ?_)
          go_simp
          refine (cn4 _).mono ?_
          rintro _ wn ⟨rfl, hb⟩
          replace h := h.below hb
          clear hb
          refine hK.out _ _ ⟨h.row (i := 0) rfl, h.row (i := 1) rfl⟩ (fun hHeld => ?_)
          clear hK K
          refine allReadyH_oneL (i := 12) (by kernel_rfl) rfl (by rfl) (fun K hK => ?_)
          refine wp_store_R 24 _ _ rfl _ (ec n3) rfl rfl (h.row (i := 5) rfl) (ie4 _) rfl (ec_all _) ?_
          intro wz q hg hz
          replace h : Fr w wz [(w.heap.size, 56, fc A B M), ((w.heap.size + 1), 56, fc D E N), ((w.heap.size + 1 + 1), 56, fc 0 0 0), (g5, 24, ec n1), (g6, 24, ec n2), (g7, 24, ec n3), (g8, 24, ec 0)] := h.put (i := 5) rfl q hg
          clear q hg hz
          refine hK.out _ _ ⟨h.row (i := 0) rfl, h.row (i := 1) rfl⟩ (fun hHeld => ?_)
          clear hK K
          refine allReadyH_oneL (i := 13) (by kernel_rfl) rfl (by rfl) (fun K hK => ?_)
          refine wp_store_R 24 _ _ rfl _ (ec n4) rfl rfl (h.row (i := 6) rfl) (ie4 _) rfl (ec_all _) ?_
          intro wz q hg hz
          replace h : Fr w wz [(w.heap.size, 56, fc A B M), ((w.heap.size + 1), 56, fc D E N), ((w.heap.size + 1 + 1), 56, fc 0 0 0), (g5, 24, ec n1), (g6, 24, ec n2), (g7, 24, ec n3), (g8, 24, ec n4)] := h.put (i := 6) rfl q hg
          clear q hg hz
          refine hK.out _ _ ⟨h.row (i := 0) rfl, h.row (i := 1) rfl⟩ (fun hHeld => ?_)
          clear hK K
          refine wpAnyH_done (by kernel_rfl) ?_ _
          refine NoPanic.normal ?_
          go_wp2
          go_meet
          case rel => exact ⟨_, _, rfl, rfl, h⟩
      · refine wp_alloc_R 24 rfl (ec 0) z4w ?_
        obtain ⟨g7, hgq, hq⟩ := h.more 5 24 (ec 0)
        replace h : Fr w _ [(w.heap.size, 56, fc A B M), ((w.heap.size + 1), 56, fc D E N), ((w.heap.size + 1 + 1), 56, fc 0 0 0), (g5, 24, ec n1), (g6, 24, ec n2), (g7, 24, ec 0), (g8, 24, ec 0)] := hq
        rw [hgq]
        clear hgq hq
        refine hK.out _ _ ⟨h.row (i := 0) rfl, h.row (i := 1) rfl⟩ (fun hHeld => ?_)
        clear hK K
        refine allReadyH_oneL (i := 4) (by kernel_rfl) rfl (by rfl) (fun K hK => ?_)
        go_simp
        refine (cn3 _).mono ?_
        rintro _ wn ⟨rfl, hb⟩
        replace h := h.below hb
        clear hb
        refine hK.out _ _ ⟨h.row (i := 0) rfl, h.row (i := 1) rfl⟩ (fun hHeld => ?_)
        clear hK K
        refine allReadyH_oneL (i := 9) (by kernel_rfl) rfl (by rfl) (fun K hK => ?_)
        go_simp
        refine (cn4 _).mono ?_
        rintro _ wn ⟨rfl, hb⟩
        replace h := h.below hb
        clear hb
        refine hK.out _ _ ⟨h.row (i := 0) rfl, h.row (i := 1) rfl⟩ (fun hHeld => ?_)
        clear hK K
        refine allReadyH_oneL (i := 12) (by kernel_rfl) rfl (by rfl) (fun K hK => ?_)
        refine wp_store_R 24 _ _ rfl _ (ec n3) rfl rfl (h.row (i := 5) rfl) (ie4 _) rfl (ec_all _) ?_
        intro wz q hg hz
        replace h : Fr w wz [(w.heap.size, 56, fc A B M), ((w.heap.size + 1), 56, fc D E N), ((w.heap.size + 1 + 1), 56, fc 0 0 0), (g5, 24, ec n1), (g6, 24, ec n2), (g7, 24, ec n3), (g8, 24, ec 0)] := h.put (i := 5) rfl q hg
        clear q hg hz
        refine hK.out _ _ ⟨h.row (i := 0) rfl, h.row (i := 1) rfl⟩ (fun hHeld => ?_)
        clear hK K
        refine allReadyH_oneL (i := 13) (by kernel_rfl) rfl (by rfl) (fun K hK => ?_)
        refine wp_store_R 24 _ _ rfl _ (ec n4) rfl rfl (h.row (i := 6) rfl) (ie4 _) rfl (ec_all _) ?_
        intro wz q hg hz
        replace h : Fr w wz [(w.heap.size, 56, fc A B M), ((w.heap.size + 1), 56, fc D E N), ((w.heap.size + 1 + 1), 56, fc 0 0 0), (g5, 24, ec n1), (g6, 24, ec n2), (g7, 24, ec n3), (g8, 24, ec n4)] := h.put (i := 6) rfl q hg
        clear q hg hz
        refine hK.out _ _ ⟨h.row (i := 0) rfl, h.row (i := 1) rfl⟩ (fun hHeld => ?_)
        clear hK K
        refine wpAnyH_done (by kernel_rfl) ?_ _
        refine NoPanic.normal ?_
        go_wp2
        go_meet
        case rel => exact ⟨_, _, rfl, rfl, h⟩
  case rest =>
    clear h
    obtain ⟨g7, g8, rfl, rfl, h⟩ := hcut
    go_upto_region 4 with fail
    try simp only [Act.put, List.setIfInBounds_toArray, List.set_cons_zero, List.set_cons_succ]
    replace h := h.drew
    go_cut [9] (fun v9 wc => ∃ g9, v9 = .pointer (some ⟨g9, 0, none⟩) ∧ Fr w wc [(w.heap.size, 56, fc A B M), ((w.heap.size + 1), 56, fc D E N), ((w.heap.size + 1 + 1), 56, fc 0 0 0), (g5, 24, ec n1), (g6, 24, ec n2), (g7, 24, ec n3), (g8, 24, ec n4), (g9, 24, ec n6)])
    case first =>
      refine wp_region_noPanic ?_
      refine wp_region_held_drew (S := fun w' => Row w' g7 24 (ec n3) ∧ Row w' g8 24 (ec n4)) (by kernel_rfl) ⟨h.row (i := 5) rfl, h.row (i := 6) rfl⟩ (fun hHeld => ?_)
      refine wpAnyH_takeL (i := 1) (v := (.agg (ec n3).toArray)) rfl (by kernel_rfl) (by kernel_rfl) (by kernel_rfl) (fun _ _ _ h => h) (by rfl) ?ht9 (by assumption) ?_
      case ht9 => intro w hSw; exact exec_load_W 24 _ rfl rfl hSw.1 Tryd.underlying24 rfl (ie4 _)
      simp only [Act.put, List.setIfInBounds_toArray, List.set_cons_zero, List.set_cons_succ]
      refine wpAnyH_takeL (i := 2) (v := (.agg (ec n4).toArray)) rfl (by kernel_rfl) (by kernel_rfl) (by kernel_rfl) (fun _ _ _ h => h) (by rfl) ?ht10 (by assumption) ?_
      case ht10 => intro w hSw; exact exec_load_W 24 _ rfl rfl hSw.2 Tryd.underlying24 rfl (ie4 _)
      simp only [Act.put, List.setIfInBounds_toArray, List.set_cons_zero, List.set_cons_succ]
      refine ready_twoL (i := 0) (j := 5) (by kernel_rfl) rfl rfl (by rfl) (by rfl) (fun K hK => ?_) (fun K hK => ?_)
      · go_simp
        refine (d13_any _).mono ?_
        rintro _ wn ⟨rfl, hb⟩
        replace h := h.below hb
        clear hb
        refine hK.out _ _ ⟨h.row (i := 5) rfl, h.row (i := 6) rfl⟩ (fun hHeld => ?_)
        clear hK K
        refine ready_twoL (i := 3) (j := 5) (by kernel_rfl) rfl rfl (by rfl) (by rfl) (fun K hK => ?_) (fun K hK => ?_)
        · go_simp
          refine (cn5 _).mono ?_
          rintro _ wn ⟨rfl, hb⟩
          replace h := h.below hb
          clear hb
          refine hK.out _ _ ⟨h.row (i := 5) rfl, h.row (i := 6) rfl⟩ (fun hHeld => ?_)
          clear hK K
          refine ready_twoL (i := 4) (j := 5) (by kernel_rfl) rfl rfl (by rfl) (by rfl) (fun K hK => ?_) (fun K hK => ?_)
          · go_simp
            refine (cn6 _).mono ?_
            rintro _ wn ⟨rfl, hb⟩
            replace h := h.below hb
            clear hb
            refine hK.out _ _ ⟨h.row (i := 5) rfl, h.row (i := 6) rfl⟩ (fun hHeld => ?_)
            clear hK K
            refine allReadyH_oneL (i := 5) (by kernel_rfl) rfl (by rfl) (fun K hK => ?_)
            refine wp_alloc_R 24 rfl (ec 0) z4w ?_
            obtain ⟨g9, hgq, hq⟩ := h.more 7 24 (ec 0)
            replace h : Fr w _ [(w.heap.size, 56, fc A B M), ((w.heap.size + 1), 56, fc D E N), ((w.heap.size + 1 + 1), 56, fc 0 0 0), (g5, 24, ec n1), (g6, 24, ec n2), (g7, 24, ec n3), (g8, 24, ec n4), (g9, 24, ec 0)] := hq
            rw [hgq]
            clear hgq hq
            refine hK.out _ _ ⟨h.row (i := 5) rfl, h.row (i := 6) rfl⟩ (fun hHeld => ?_)
            clear hK K
            refine allReadyH_oneL (i := 6) (by kernel_rfl) rfl (by rfl) (fun K hK => ?_)
            refine wp_store_R 24 _ _ rfl _ (ec n6) rfl rfl (h.row (i := 7) rfl) (ie4 _) rfl (ec_all _) ?_
            intro wz q hg hz
            replace h : Fr w wz [(w.heap.size, 56, fc A B M), ((w.heap.size + 1), 56, fc D E N), ((w.heap.size + 1 + 1), 56, fc 0 0 0), (g5, 24, ec n1), (g6, 24, ec n2), (g7, 24, ec n3), (g8, 24, ec n4), (g9, 24, ec n6)] := h.put (i := 7) rfl q hg
            clear q hg hz
            refine hK.out _ _ ⟨h.row (i := 5) rfl, h.row (i := 6) rfl⟩ (fun hHeld => ?_)
            clear hK K
            refine wpAnyH_done (by kernel_rfl) ?_ _
            refine NoPanic.normal ?_
            go_wp2
            go_meet
            case rel => exact ⟨_, rfl, h⟩
          · refine wp_alloc_R 24 rfl (ec 0) z4w ?_
            obtain ⟨g9, hgq, hq⟩ := h.more 7 24 (ec 0)
            replace h : Fr w _ [(w.heap.size, 56, fc A B M), ((w.heap.size + 1), 56, fc D E N), ((w.heap.size + 1 + 1), 56, fc 0 0 0), (g5, 24, ec n1), (g6, 24, ec n2), (g7, 24, ec n3), (g8, 24, ec n4), (g9, 24, ec 0)] := hq
            rw [hgq]
            clear hgq hq
            refine hK.out _ _ ⟨h.row (i := 5) rfl, h.row (i := 6) rfl⟩ (fun hHeld => ?_)
            clear hK K
            refine allReadyH_oneL (i := 4) (by kernel_rfl) rfl (by rfl) (fun K hK => ?_)
            go_simp
            refine (cn6 _).mono ?_
            rintro _ wn ⟨rfl, hb⟩
            replace h := h.below hb
            clear hb
            refine hK.out _ _ ⟨h.row (i := 5) rfl, h.row (i := 6) rfl⟩ (fun hHeld => ?_)
            clear hK K
            refine allReadyH_oneL (i := 6) (by kernel_rfl) rfl (by rfl) (fun K hK => ?_)
            refine wp_store_R 24 _ _ rfl _ (ec n6) rfl rfl (h.row (i := 7) rfl) (ie4 _) rfl (ec_all _) ?_
            intro wz q hg hz
            replace h : Fr w wz [(w.heap.size, 56, fc A B M), ((w.heap.size + 1), 56, fc D E N), ((w.heap.size + 1 + 1), 56, fc 0 0 0), (g5, 24, ec n1), (g6, 24, ec n2), (g7, 24, ec n3), (g8, 24, ec n4), (g9, 24, ec n6)] := h.put (i := 7) rfl q hg
            clear q hg hz
            refine hK.out _ _ ⟨h.row (i := 5) rfl, h.row (i := 6) rfl⟩ (fun hHeld => ?_)
            clear hK K
            refine wpAnyH_done (by kernel_rfl) ?_ _
            refine NoPanic.normal ?_
            go_wp2
            go_meet
            case rel => exact ⟨_, rfl, h⟩
        · refine wp_alloc_R 24 rfl (ec 0) z4w ?_
          obtain ⟨g9, hgq, hq⟩ := h.more 7 24 (ec 0)
          replace h : Fr w _ [(w.heap.size, 56, fc A B M), ((w.heap.size + 1), 56, fc D E N), ((w.heap.size + 1 + 1), 56, fc 0 0 0), (g5, 24, ec n1), (g6, 24, ec n2), (g7, 24, ec n3), (g8, 24, ec n4), (g9, 24, ec 0)] := hq
          rw [hgq]
          clear hgq hq
          refine hK.out _ _ ⟨h.row (i := 5) rfl, h.row (i := 6) rfl⟩ (fun hHeld => ?_)
          clear hK K
          refine allReadyH_oneL (i := 3) (by kernel_rfl) rfl (by rfl) (fun K hK => ?_)
          go_simp
          refine (cn5 _).mono ?_
          rintro _ wn ⟨rfl, hb⟩
          replace h := h.below hb
          clear hb
          refine hK.out _ _ ⟨h.row (i := 5) rfl, h.row (i := 6) rfl⟩ (fun hHeld => ?_)
          clear hK K
          refine allReadyH_oneL (i := 4) (by kernel_rfl) rfl (by rfl) (fun K hK => ?_)
          go_simp
          refine (cn6 _).mono ?_
          rintro _ wn ⟨rfl, hb⟩
          replace h := h.below hb
          clear hb
          refine hK.out _ _ ⟨h.row (i := 5) rfl, h.row (i := 6) rfl⟩ (fun hHeld => ?_)
          clear hK K
          refine allReadyH_oneL (i := 6) (by kernel_rfl) rfl (by rfl) (fun K hK => ?_)
          refine wp_store_R 24 _ _ rfl _ (ec n6) rfl rfl (h.row (i := 7) rfl) (ie4 _) rfl (ec_all _) ?_
          intro wz q hg hz
          replace h : Fr w wz [(w.heap.size, 56, fc A B M), ((w.heap.size + 1), 56, fc D E N), ((w.heap.size + 1 + 1), 56, fc 0 0 0), (g5, 24, ec n1), (g6, 24, ec n2), (g7, 24, ec n3), (g8, 24, ec n4), (g9, 24, ec n6)] := h.put (i := 7) rfl q hg
          clear q hg hz
          refine hK.out _ _ ⟨h.row (i := 5) rfl, h.row (i := 6) rfl⟩ (fun hHeld => ?_)
          clear hK K
          refine wpAnyH_done (by kernel_rfl) ?_ _
          refine NoPanic.normal ?_
          go_wp2
          go_meet
          case rel => exact ⟨_, rfl, h⟩
      · refine wp_alloc_R 24 rfl (ec 0) z4w ?_
        obtain ⟨g9, hgq, hq⟩ := h.more 7 24 (ec 0)
        replace h : Fr w _ [(w.heap.size, 56, fc A B M), ((w.heap.size + 1), 56, fc D E N), ((w.heap.size + 1 + 1), 56, fc 0 0 0), (g5, 24, ec n1), (g6, 24, ec n2), (g7, 24, ec n3), (g8, 24, ec n4), (g9, 24, ec 0)] := hq
        rw [hgq]
        clear hgq hq
        refine hK.out _ _ ⟨h.row (i := 5) rfl, h.row (i := 6) rfl⟩ (fun hHeld => ?_)
        clear hK K
        refine allReadyH_oneL (i := 0) (by kernel_rfl) rfl (by rfl) (fun K hK => ?_)
        go_simp
        refine (d13_any _).mono ?_
        rintro _ wn ⟨rfl, hb⟩
        replace h := h.below hb
        clear hb
        refine hK.out _ _ ⟨h.row (i := 5) rfl, h.row (i := 6) rfl⟩ (fun hHeld => ?_)
        clear hK K
        refine allReadyH_oneL (i := 3) (by kernel_rfl) rfl (by rfl) (fun K hK => ?_)
        go_simp
        refine (cn5 _).mono ?_
        rintro _ wn ⟨rfl, hb⟩
        replace h := h.below hb
        clear hb
        refine hK.out _ _ ⟨h.row (i := 5) rfl, h.row (i := 6) rfl⟩ (fun hHeld => ?_)
        clear hK K
        refine allReadyH_oneL (i := 4) (by kernel_rfl) rfl (by rfl) (fun K hK => ?_)
        go_simp
        refine (cn6 _).mono ?_
        rintro _ wn ⟨rfl, hb⟩
        replace h := h.below hb
        clear hb
        refine hK.out _ _ ⟨h.row (i := 5) rfl, h.row (i := 6) rfl⟩ (fun hHeld => ?_)
        clear hK K
        refine allReadyH_oneL (i := 6) (by kernel_rfl) rfl (by rfl) (fun K hK => ?_)
        refine wp_store_R 24 _ _ rfl _ (ec n6) rfl rfl (h.row (i := 7) rfl) (ie4 _) rfl (ec_all _) ?_
        intro wz q hg hz
        replace h : Fr w wz [(w.heap.size, 56, fc A B M), ((w.heap.size + 1), 56, fc D E N), ((w.heap.size + 1 + 1), 56, fc 0 0 0), (g5, 24, ec n1), (g6, 24, ec n2), (g7, 24, ec n3), (g8, 24, ec n4), (g9, 24, ec n6)] := h.put (i := 7) rfl q hg
        clear q hg hz
        refine hK.out _ _ ⟨h.row (i := 5) rfl, h.row (i := 6) rfl⟩ (fun hHeld => ?_)
        clear hK K
        refine wpAnyH_done (by kernel_rfl) ?_ _
        refine NoPanic.normal ?_
        go_wp2
        go_meet
        case rel => exact ⟨_, rfl, h⟩
    case rest =>
      clear h
      obtain ⟨g9, rfl, h⟩ := hcut
      go_upto_region 5 with fail
      try simp only [Act.put, List.setIfInBounds_toArray, List.set_cons_zero, List.set_cons_succ]
      replace h := h.drew
      go_cut [10, 11] (fun v10 v11 wc => ∃ g10 g11, v10 = .pointer (some ⟨g10, 0, none⟩) ∧ v11 = .pointer (some ⟨g11, 0, none⟩) ∧ Fr w wc [(w.heap.size, 56, fc A B M), ((w.heap.size + 1), 56, fc D E N), ((w.heap.size + 1 + 1), 56, fc 0 0 0), (g5, 24, ec n1), (g6, 24, ec n2), (g7, 24, ec n3), (g8, 24, ec n4), (g9, 24, ec n6), (g10, 24, ec n7), (g11, 24, ec n8)])
      case first =>
        refine wp_region_noPanic ?_
        refine wp_region_held_drew (S := fun w' => Row w' g6 24 (ec n2) ∧ Row w' g9 24 (ec n6)) (by kernel_rfl) ⟨h.row (i := 4) rfl, h.row (i := 7) rfl⟩ (fun hHeld => ?_)
        refine wpAnyH_takeL (i := 0) (v := (.agg (ec n2).toArray)) rfl (by kernel_rfl) (by kernel_rfl) (by kernel_rfl) (fun _ _ _ h => h) (by rfl) ?ht11 (by assumption) ?_
        case ht11 => intro w hSw; exact exec_load_W 24 _ rfl rfl hSw.1 Tryd.underlying24 rfl (ie4 _)
        simp only [Act.put, List.setIfInBounds_toArray, List.set_cons_zero, List.set_cons_succ]
        refine wpAnyH_takeL (i := 1) (v := (.agg (ec n6).toArray)) rfl (by kernel_rfl) (by kernel_rfl) (by kernel_rfl) (fun _ _ _ h => h) (by rfl) ?ht12 (by assumption) ?_
        case ht12 => intro w hSw; exact exec_load_W 24 _ rfl rfl hSw.2 Tryd.underlying24 rfl (ie4 _)
        simp only [Act.put, List.setIfInBounds_toArray, List.set_cons_zero, List.set_cons_succ]
        refine wpAnyH_takeL (i := 3) (v := (.agg (ec n2).toArray)) rfl (by kernel_rfl) (by kernel_rfl) (by kernel_rfl) (fun _ _ _ h => h) (by rfl) ?ht13 (by assumption) ?_
        case ht13 => intro w hSw; exact exec_load_W 24 _ rfl rfl hSw.1 Tryd.underlying24 rfl (ie4 _)
        simp only [Act.put, List.setIfInBounds_toArray, List.set_cons_zero, List.set_cons_succ]
        refine wpAnyH_takeL (i := 4) (v := (.agg (ec n6).toArray)) rfl (by kernel_rfl) (by kernel_rfl) (by kernel_rfl) (fun _ _ _ h => h) (by rfl) ?ht14 (by assumption) ?_
        case ht14 => intro w hSw; exact exec_load_W 24 _ rfl rfl hSw.2 Tryd.underlying24 rfl (ie4 _)
        simp only [Act.put, List.setIfInBounds_toArray, List.set_cons_zero, List.set_cons_succ]
        refine ready_threeL (i := 2) (j := 6) (k := 7) (by kernel_rfl) rfl rfl rfl (by rfl) (by rfl) (by rfl) (fun K hK => ?_) (fun K hK => ?_) (fun K hK => ?_)
        · go_simp
          refine (cn7 _).mono ?_
          rintro _ wn ⟨rfl, hb⟩
          replace h := h.below hb
          clear hb
          refine hK.out _ _ ⟨h.row (i := 4) rfl, h.row (i := 7) rfl⟩ (fun hHeld => ?_)
          clear hK K
          refine ready_threeL (i := 5) (j := 6) (k := 7) (by kernel_rfl) rfl rfl rfl (by rfl) (by rfl) (by rfl) (fun K hK => ?_) (fun K hK => ?_) (fun K hK => ?_)
          · go_simp
            refine (cn8 _).mono ?_
            rintro _ wn ⟨rfl, hb⟩
            replace h := h.below hb
            clear hb
            refine hK.out _ _ ⟨h.row (i := 4) rfl, h.row (i := 7) rfl⟩ (fun hHeld => ?_)
            clear hK K
            refine ready_twoL (i := 6) (j := 7) (by kernel_rfl) rfl rfl (by rfl) (by rfl) (fun K hK => ?_) (fun K hK => ?_)
            · refine wp_alloc_R 24 rfl (ec 0) z4w ?_
              obtain ⟨g10, hgq, hq⟩ := h.more 8 24 (ec 0)
              replace h : Fr w _ [(w.heap.size, 56, fc A B M), ((w.heap.size + 1), 56, fc D E N), ((w.heap.size + 1 + 1), 56, fc 0 0 0), (g5, 24, ec n1), (g6, 24, ec n2), (g7, 24, ec n3), (g8, 24, ec n4), (g9, 24, ec n6), (g10, 24, ec 0)] := hq
              rw [hgq]
              clear hgq hq
              refine hK.out _ _ ⟨h.row (i := 4) rfl, h.row (i := 7) rfl⟩ (fun hHeld => ?_)
              clear hK K
              refine allReadyH_oneL (i := 7) (by kernel_rfl) rfl (by rfl) (fun K hK => ?_)
              refine wp_alloc_R 24 rfl (ec 0) z4w ?_
              obtain ⟨g11, hgq, hq⟩ := h.more 9 24 (ec 0)
              replace h : Fr w _ [(w.heap.size, 56, fc A B M), ((w.heap.size + 1), 56, fc D E N), ((w.heap.size + 1 + 1), 56, fc 0 0 0), (g5, 24, ec n1), (g6, 24, ec n2), (g7, 24, ec n3), (g8, 24, ec n4), (g9, 24, ec n6), (g10, 24, ec 0), (g11, 24, ec 0)] := hq
              rw [hgq]
              clear hgq hq
              refine hK.out _ _ ⟨h.row (i := 4) rfl, h.row (i := 7) rfl⟩ (fun hHeld => ?_)
              clear hK K
              refine allReadyH_oneL (i := 8) (by kernel_rfl) rfl (by rfl) (fun K hK => ?_)
              refine wp_store_R 24 _ _ rfl _ (ec n7) rfl rfl (h.row (i := 8) rfl) (ie4 _) rfl (ec_all _) ?_
              intro wz q hg hz
              replace h : Fr w wz [(w.heap.size, 56, fc A B M), ((w.heap.size + 1), 56, fc D E N), ((w.heap.size + 1 + 1), 56, fc 0 0 0), (g5, 24, ec n1), (g6, 24, ec n2), (g7, 24, ec n3), (g8, 24, ec n4), (g9, 24, ec n6), (g10, 24, ec n7), (g11, 24, ec 0)] := h.put (i := 8) rfl q hg
              clear q hg hz
              refine hK.out _ _ ⟨h.row (i := 4) rfl, h.row (i := 7) rfl⟩ (fun hHeld => ?_)
              clear hK K
              refine allReadyH_oneL (i := 9) (by kernel_rfl) rfl (by rfl) (fun K hK => ?_)
              refine wp_store_R 24 _ _ rfl _ (ec n8) rfl rfl (h.row (i := 9) rfl) (ie4 _) rfl (ec_all _) ?_
              intro wz q hg hz
              replace h : Fr w wz [(w.heap.size, 56, fc A B M), ((w.heap.size + 1), 56, fc D E N), ((w.heap.size + 1 + 1), 56, fc 0 0 0), (g5, 24, ec n1), (g6, 24, ec n2), (g7, 24, ec n3), (g8, 24, ec n4), (g9, 24, ec n6), (g10, 24, ec n7), (g11, 24, ec n8)] := h.put (i := 9) rfl q hg
              clear q hg hz
              refine hK.out _ _ ⟨h.row (i := 4) rfl, h.row (i := 7) rfl⟩ (fun hHeld => ?_)
              clear hK K
              refine wpAnyH_done (by kernel_rfl) ?_ _
              refine NoPanic.normal ?_
              go_wp2
              go_meet
              case rel => exact ⟨_, _, rfl, rfl, h⟩
            · refine wp_alloc_R 24 rfl (ec 0) z4w ?_
              obtain ⟨g11, hgq, hq⟩ := h.more 8 24 (ec 0)
              replace h : Fr w _ [(w.heap.size, 56, fc A B M), ((w.heap.size + 1), 56, fc D E N), ((w.heap.size + 1 + 1), 56, fc 0 0 0), (g5, 24, ec n1), (g6, 24, ec n2), (g7, 24, ec n3), (g8, 24, ec n4), (g9, 24, ec n6), (g11, 24, ec 0)] := hq
              rw [hgq]
              clear hgq hq
              refine hK.out _ _ ⟨h.row (i := 4) rfl, h.row (i := 7) rfl⟩ (fun hHeld => ?_)
              clear hK K
              refine allReadyH_oneL (i := 6) (by kernel_rfl) rfl (by rfl) (fun K hK => ?_)
              refine wp_alloc_R 24 rfl (ec 0) z4w ?_
              obtain ⟨g10, hgq, hq⟩ := h.more 8 24 (ec 0)
              replace h : Fr w _ [(w.heap.size, 56, fc A B M), ((w.heap.size + 1), 56, fc D E N), ((w.heap.size + 1 + 1), 56, fc 0 0 0), (g5, 24, ec n1), (g6, 24, ec n2), (g7, 24, ec n3), (g8, 24, ec n4), (g9, 24, ec n6), (g10, 24, ec 0), (g11, 24, ec 0)] := hq
              rw [hgq]
              clear hgq hq
              refine hK.out _ _ ⟨h.row (i := 4) rfl, h.row (i := 7) rfl⟩ (fun hHeld => ?_)
              clear hK K
              refine allReadyH_oneL (i := 8) (by kernel_rfl) rfl (by rfl) (fun K hK => ?_)
              refine wp_store_R 24 _ _ rfl _ (ec n7) rfl rfl (h.row (i := 8) rfl) (ie4 _) rfl (ec_all _) ?_
              intro wz q hg hz
              replace h : Fr w wz [(w.heap.size, 56, fc A B M), ((w.heap.size + 1), 56, fc D E N), ((w.heap.size + 1 + 1), 56, fc 0 0 0), (g5, 24, ec n1), (g6, 24, ec n2), (g7, 24, ec n3), (g8, 24, ec n4), (g9, 24, ec n6), (g10, 24, ec n7), (g11, 24, ec 0)] := h.put (i := 8) rfl q hg
              clear q hg hz
              refine hK.out _ _ ⟨h.row (i := 4) rfl, h.row (i := 7) rfl⟩ (fun hHeld => ?_)
              clear hK K
              refine allReadyH_oneL (i := 9) (by kernel_rfl) rfl (by rfl) (fun K hK => ?_)
              refine wp_store_R 24 _ _ rfl _ (ec n8) rfl rfl (h.row (i := 9) rfl) (ie4 _) rfl (ec_all _) ?_
              intro wz q hg hz
              replace h : Fr w wz [(w.heap.size, 56, fc A B M), ((w.heap.size + 1), 56, fc D E N), ((w.heap.size + 1 + 1), 56, fc 0 0 0), (g5, 24, ec n1), (g6, 24, ec n2), (g7, 24, ec n3), (g8, 24, ec n4), (g9, 24, ec n6), (g10, 24, ec n7), (g11, 24, ec n8)] := h.put (i := 9) rfl q hg
              clear q hg hz
              refine hK.out _ _ ⟨h.row (i := 4) rfl, h.row (i := 7) rfl⟩ (fun hHeld => ?_)
              clear hK K
              refine wpAnyH_done (by kernel_rfl) ?_ _
              refine NoPanic.normal ?_
              go_wp2
              go_meet
              case rel => exact ⟨_, _, rfl, rfl, h⟩
          · refine wp_alloc_R 24 rfl (ec 0) z4w ?_
            obtain ⟨g10, hgq, hq⟩ := h.more 8 24 (ec 0)
            replace h : Fr w _ [(w.heap.size, 56, fc A B M), ((w.heap.size + 1), 56, fc D E N), ((w.heap.size + 1 + 1), 56, fc 0 0 0), (g5, 24, ec n1), (g6, 24, ec n2), (g7, 24, ec n3), (g8, 24, ec n4), (g9, 24, ec n6), (g10, 24, ec 0)] := hq
            rw [hgq]
            clear hgq hq
            refine hK.out _ _ ⟨h.row (i := 4) rfl, h.row (i := 7) rfl⟩ (fun hHeld => ?_)
            clear hK K
            refine ready_twoL (i := 5) (j := 7) (by kernel_rfl) rfl rfl (by rfl) (by rfl) (fun K hK => ?_) (fun K hK => ?_)
            · go_simp
              refine (cn8 _).mono ?_
              rintro _ wn ⟨rfl, hb⟩
              replace h := h.below hb
              clear hb
              refine hK.out _ _ ⟨h.row (i := 4) rfl, h.row (i := 7) rfl⟩ (fun hHeld => ?_)
              clear hK K
              refine allReadyH_oneL (i := 7) (by kernel_rfl) rfl (by rfl) (fun K hK => ?_)
              refine wp_alloc_R 24 rfl (ec 0) z4w ?_
              obtain ⟨g11, hgq, hq⟩ := h.more 9 24 (ec 0)
              replace h : Fr w _ [(w.heap.size, 56, fc A B M), ((w.heap.size + 1), 56, fc D E N), ((w.heap.size + 1 + 1), 56, fc 0 0 0), (g5, 24, ec n1), (g6, 24, ec n2), (g7, 24, ec n3), (g8, 24, ec n4), (g9, 24, ec n6), (g10, 24, ec 0), (g11, 24, ec 0)] := hq
              rw [hgq]
              clear hgq hq
              refine hK.out _ _ ⟨h.row (i := 4) rfl, h.row (i := 7) rfl⟩ (fun hHeld => ?_)
              clear hK K
              refine allReadyH_oneL (i := 8) (by kernel_rfl) rfl (by rfl) (fun K hK => ?_)
              refine wp_store_R 24 _ _ rfl _ (ec n7) rfl rfl (h.row (i := 8) rfl) (ie4 _) rfl (ec_all _) ?_
              intro wz q hg hz
              replace h : Fr w wz [(w.heap.size, 56, fc A B M), ((w.heap.size + 1), 56, fc D E N), ((w.heap.size + 1 + 1), 56, fc 0 0 0), (g5, 24, ec n1), (g6, 24, ec n2), (g7, 24, ec n3), (g8, 24, ec n4), (g9, 24, ec n6), (g10, 24, ec n7), (g11, 24, ec 0)] := h.put (i := 8) rfl q hg
              clear q hg hz
              refine hK.out _ _ ⟨h.row (i := 4) rfl, h.row (i := 7) rfl⟩ (fun hHeld => ?_)
              clear hK K
              refine allReadyH_oneL (i := 9) (by kernel_rfl) rfl (by rfl) (fun K hK => ?_)
              refine wp_store_R 24 _ _ rfl _ (ec n8) rfl rfl (h.row (i := 9) rfl) (ie4 _) rfl (ec_all _) ?_
              intro wz q hg hz
              replace h : Fr w wz [(w.heap.size, 56, fc A B M), ((w.heap.size + 1), 56, fc D E N), ((w.heap.size + 1 + 1), 56, fc 0 0 0), (g5, 24, ec n1), (g6, 24, ec n2), (g7, 24, ec n3), (g8, 24, ec n4), (g9, 24, ec n6), (g10, 24, ec n7), (g11, 24, ec n8)] := h.put (i := 9) rfl q hg
              clear q hg hz
              refine hK.out _ _ ⟨h.row (i := 4) rfl, h.row (i := 7) rfl⟩ (fun hHeld => ?_)
              clear hK K
              refine wpAnyH_done (by kernel_rfl) ?_ _
              refine NoPanic.normal ?_
              go_wp2
              go_meet
              case rel => exact ⟨_, _, rfl, rfl, h⟩
            · refine wp_alloc_R 24 rfl (ec 0) z4w ?_
              obtain ⟨g11, hgq, hq⟩ := h.more 9 24 (ec 0)
              replace h : Fr w _ [(w.heap.size, 56, fc A B M), ((w.heap.size + 1), 56, fc D E N), ((w.heap.size + 1 + 1), 56, fc 0 0 0), (g5, 24, ec n1), (g6, 24, ec n2), (g7, 24, ec n3), (g8, 24, ec n4), (g9, 24, ec n6), (g10, 24, ec 0), (g11, 24, ec 0)] := hq
              rw [hgq]
              clear hgq hq
              refine hK.out _ _ ⟨h.row (i := 4) rfl, h.row (i := 7) rfl⟩ (fun hHeld => ?_)
              clear hK K
              refine allReadyH_oneL (i := 5) (by kernel_rfl) rfl (by rfl) (fun K hK => ?_)
              go_simp
              refine (cn8 _).mono ?_
              rintro _ wn ⟨rfl, hb⟩
              replace h := h.below hb
              clear hb
              refine hK.out _ _ ⟨h.row (i := 4) rfl, h.row (i := 7) rfl⟩ (fun hHeld => ?_)
              clear hK K
              refine allReadyH_oneL (i := 8) (by kernel_rfl) rfl (by rfl) (fun K hK => ?_)
              refine wp_store_R 24 _ _ rfl _ (ec n7) rfl rfl (h.row (i := 8) rfl) (ie4 _) rfl (ec_all _) ?_
              intro wz q hg hz
              replace h : Fr w wz [(w.heap.size, 56, fc A B M), ((w.heap.size + 1), 56, fc D E N), ((w.heap.size + 1 + 1), 56, fc 0 0 0), (g5, 24, ec n1), (g6, 24, ec n2), (g7, 24, ec n3), (g8, 24, ec n4), (g9, 24, ec n6), (g10, 24, ec n7), (g11, 24, ec 0)] := h.put (i := 8) rfl q hg
              clear q hg hz
              refine hK.out _ _ ⟨h.row (i := 4) rfl, h.row (i := 7) rfl⟩ (fun hHeld => ?_)
              clear hK K
              refine allReadyH_oneL (i := 9) (by kernel_rfl) rfl (by rfl) (fun K hK => ?_)
              refine wp_store_R 24 _ _ rfl _ (ec n8) rfl rfl (h.row (i := 9) rfl) (ie4 _) rfl (ec_all _) ?_
              intro wz q hg hz
              replace h : Fr w wz [(w.heap.size, 56, fc A B M), ((w.heap.size + 1), 56, fc D E N), ((w.heap.size + 1 + 1), 56, fc 0 0 0), (g5, 24, ec n1), (g6, 24, ec n2), (g7, 24, ec n3), (g8, 24, ec n4), (g9, 24, ec n6), (g10, 24, ec n7), (g11, 24, ec n8)] := h.put (i := 9) rfl q hg
              clear q hg hz
              refine hK.out _ _ ⟨h.row (i := 4) rfl, h.row (i := 7) rfl⟩ (fun hHeld => ?_)
              clear hK K
              refine wpAnyH_done (by kernel_rfl) ?_ _
              refine NoPanic.normal ?_
              go_wp2
              go_meet
              case rel => exact ⟨_, _, rfl, rfl, h⟩
          · refine wp_alloc_R 24 rfl (ec 0) z4w ?_
            obtain ⟨g11, hgq, hq⟩ := h.more 8 24 (ec 0)
            replace h : Fr w _ [(w.heap.size, 56, fc A B M), ((w.heap.size + 1), 56, fc D E N), ((w.heap.size + 1 + 1), 56, fc 0 0 0), (g5, 24, ec n1), (g6, 24, ec n2), (g7, 24, ec n3), (g8, 24, ec n4), (g9, 24, ec n6), (g11, 24, ec 0)] := hq
            rw [hgq]
            clear hgq hq
            refine hK.out _ _ ⟨h.row (i := 4) rfl, h.row (i := 7) rfl⟩ (fun hHeld => ?_)
            clear hK K
            refine ready_twoL (i := 5) (j := 6) (by kernel_rfl) rfl rfl (by rfl) (by rfl) (fun K hK => ?_) (fun K hK => ?_)
            · go_simp
              refine (cn8 _).mono ?_
              rintro _ wn ⟨rfl, hb⟩
              replace h := h.below hb
              clear hb
              refine hK.out _ _ ⟨h.row (i := 4) rfl, h.row (i := 7) rfl⟩ (fun hHeld => ?_)
              clear hK K
              refine allReadyH_oneL (i := 6) (by kernel_rfl) rfl (by rfl) (fun K hK => ?_)
              refine wp_alloc_R 24 rfl (ec 0) z4w ?_
              obtain ⟨g10, hgq, hq⟩ := h.more 8 24 (ec 0)
              replace h : Fr w _ [(w.heap.size, 56, fc A B M), ((w.heap.size + 1), 56, fc D E N), ((w.heap.size + 1 + 1), 56, fc 0 0 0), (g5, 24, ec n1), (g6, 24, ec n2), (g7, 24, ec n3), (g8, 24, ec n4), (g9, 24, ec n6), (g10, 24, ec 0), (g11, 24, ec 0)] := hq
              rw [hgq]
              clear hgq hq
              refine hK.out _ _ ⟨h.row (i := 4) rfl, h.row (i := 7) rfl⟩ (fun hHeld => ?_)
              clear hK K
              refine allReadyH_oneL (i := 8) (by kernel_rfl) rfl (by rfl) (fun K hK => ?_)
              refine wp_store_R 24 _ _ rfl _ (ec n7) rfl rfl (h.row (i := 8) rfl) (ie4 _) rfl (ec_all _) ?_
              intro wz q hg hz
              replace h : Fr w wz [(w.heap.size, 56, fc A B M), ((w.heap.size + 1), 56, fc D E N), ((w.heap.size + 1 + 1), 56, fc 0 0 0), (g5, 24, ec n1), (g6, 24, ec n2), (g7, 24, ec n3), (g8, 24, ec n4), (g9, 24, ec n6), (g10, 24, ec n7), (g11, 24, ec 0)] := h.put (i := 8) rfl q hg
              clear q hg hz
              refine hK.out _ _ ⟨h.row (i := 4) rfl, h.row (i := 7) rfl⟩ (fun hHeld => ?_)
              clear hK K
              refine allReadyH_oneL (i := 9) (by kernel_rfl) rfl (by rfl) (fun K hK => ?_)
              refine wp_store_R 24 _ _ rfl _ (ec n8) rfl rfl (h.row (i := 9) rfl) (ie4 _) rfl (ec_all _) ?_
              intro wz q hg hz
              replace h : Fr w wz [(w.heap.size, 56, fc A B M), ((w.heap.size + 1), 56, fc D E N), ((w.heap.size + 1 + 1), 56, fc 0 0 0), (g5, 24, ec n1), (g6, 24, ec n2), (g7, 24, ec n3), (g8, 24, ec n4), (g9, 24, ec n6), (g10, 24, ec n7), (g11, 24, ec n8)] := h.put (i := 9) rfl q hg
              clear q hg hz
              refine hK.out _ _ ⟨h.row (i := 4) rfl, h.row (i := 7) rfl⟩ (fun hHeld => ?_)
              clear hK K
              refine wpAnyH_done (by kernel_rfl) ?_ _
              refine NoPanic.normal ?_
              go_wp2
              go_meet
              case rel => exact ⟨_, _, rfl, rfl, h⟩
            · refine wp_alloc_R 24 rfl (ec 0) z4w ?_
              obtain ⟨g10, hgq, hq⟩ := h.more 8 24 (ec 0)
              replace h : Fr w _ [(w.heap.size, 56, fc A B M), ((w.heap.size + 1), 56, fc D E N), ((w.heap.size + 1 + 1), 56, fc 0 0 0), (g5, 24, ec n1), (g6, 24, ec n2), (g7, 24, ec n3), (g8, 24, ec n4), (g9, 24, ec n6), (g10, 24, ec 0), (g11, 24, ec 0)] := hq
              rw [hgq]
              clear hgq hq
              refine hK.out _ _ ⟨h.row (i := 4) rfl, h.row (i := 7) rfl⟩ (fun hHeld => ?_)
              clear hK K
              refine allReadyH_oneL (i := 5) (by kernel_rfl) rfl (by rfl) (fun K hK => ?_)
              go_simp
              refine (cn8 _).mono ?_
              rintro _ wn ⟨rfl, hb⟩
              replace h := h.below hb
              clear hb
              refine hK.out _ _ ⟨h.row (i := 4) rfl, h.row (i := 7) rfl⟩ (fun hHeld => ?_)
              clear hK K
              refine allReadyH_oneL (i := 8) (by kernel_rfl) rfl (by rfl) (fun K hK => ?_)
              refine wp_store_R 24 _ _ rfl _ (ec n7) rfl rfl (h.row (i := 8) rfl) (ie4 _) rfl (ec_all _) ?_
              intro wz q hg hz
              replace h : Fr w wz [(w.heap.size, 56, fc A B M), ((w.heap.size + 1), 56, fc D E N), ((w.heap.size + 1 + 1), 56, fc 0 0 0), (g5, 24, ec n1), (g6, 24, ec n2), (g7, 24, ec n3), (g8, 24, ec n4), (g9, 24, ec n6), (g10, 24, ec n7), (g11, 24, ec 0)] := h.put (i := 8) rfl q hg
              clear q hg hz
              refine hK.out _ _ ⟨h.row (i := 4) rfl, h.row (i := 7) rfl⟩ (fun hHeld => ?_)
              clear hK K
              refine allReadyH_oneL (i := 9) (by kernel_rfl) rfl (by rfl) (fun K hK => ?_)
              refine wp_store_R 24 _ _ rfl _ (ec n8) rfl rfl (h.row (i := 9) rfl) (ie4 _) rfl (ec_all _) ?_
              intro wz q hg hz
              replace h : Fr w wz [(w.heap.size, 56, fc A B M), ((w.heap.size + 1), 56, fc D E N), ((w.heap.size + 1 + 1), 56, fc 0 0 0), (g5, 24, ec n1), (g6, 24, ec n2), (g7, 24, ec n3), (g8, 24, ec n4), (g9, 24, ec n6), (g10, 24, ec n7), (g11, 24, ec n8)] := h.put (i := 9) rfl q hg
              clear q hg hz
              refine hK.out _ _ ⟨h.row (i := 4) rfl, h.row (i := 7) rfl⟩ (fun hHeld => ?_)
              clear hK K
              refine wpAnyH_done (by kernel_rfl) ?_ _
              refine NoPanic.normal ?_
              go_wp2
              go_meet
              case rel => exact ⟨_, _, rfl, rfl, h⟩
        · refine wp_alloc_R 24 rfl (ec 0) z4w ?_
          obtain ⟨g10, hgq, hq⟩ := h.more 8 24 (ec 0)
          replace h : Fr w _ [(w.heap.size, 56, fc A B M), ((w.heap.size + 1), 56, fc D E N), ((w.heap.size + 1 + 1), 56, fc 0 0 0), (g5, 24, ec n1), (g6, 24, ec n2), (g7, 24, ec n3), (g8, 24, ec n4), (g9, 24, ec n6), (g10, 24, ec 0)] := hq
          rw [hgq]
          clear hgq hq
          refine hK.out _ _ ⟨h.row (i := 4) rfl, h.row (i := 7) rfl⟩ (fun hHeld => ?_)
          clear hK K
          refine ready_twoL (i := 2) (j := 7) (by kernel_rfl) rfl rfl (by rfl) (by rfl) (fun K hK => ?_) (fun K hK => ?_)
          · go_simp
            refine (cn7 _).mono ?_
            rintro _ wn ⟨rfl, hb⟩
            replace h := h.below hb
            clear hb
            refine hK.out _ _ ⟨h.row (i := 4) rfl, h.row (i := 7) rfl⟩ (fun hHeld => ?_)
            clear hK K
            refine ready_twoL (i := 5) (j := 7) (by kernel_rfl) rfl rfl (by rfl) (by rfl) (fun K hK => ?_) (fun K hK => ?_)
            · go_simp
              refine (cn8 _).mono ?_
              rintro _ wn ⟨rfl, hb⟩
              replace h := h.below hb
              clear hb
              refine hK.out _ _ ⟨h.row (i := 4) rfl, h.row (i := 7) rfl⟩ (fun hHeld => ?_)
              clear hK K
              refine allReadyH_oneL (i := 7) (by kernel_rfl) rfl (by rfl) (fun K hK => ?_)
              refine wp_alloc_R 24 rfl (ec 0) z4w ?_
              obtain ⟨g11, hgq, hq⟩ := h.more 9 24 (ec 0)
              replace h : Fr w _ [(w.heap.size, 56, fc A B M), ((w.heap.size + 1), 56, fc D E N), ((w.heap.size + 1 + 1), 56, fc 0 0 0), (g5, 24, ec n1), (g6, 24, ec n2), (g7, 24, ec n3), (g8, 24, ec n4), (g9, 24, ec n6), (g10, 24, ec 0), (g11, 24, ec 0)] := hq
              rw [hgq]
              clear hgq hq
              refine hK.out _ _ ⟨h.row (i := 4) rfl, h.row (i := 7) rfl⟩ (fun hHeld => ?_)
              clear hK K
              refine allReadyH_oneL (i := 8) (by kernel_rfl) rfl (by rfl) (fun K hK => ?_)
              refine wp_store_R 24 _ _ rfl _ (ec n7) rfl rfl (h.row (i := 8) rfl) (ie4 _) rfl (ec_all _) ?_
              intro wz q hg hz
              replace h : Fr w wz [(w.heap.size, 56, fc A B M), ((w.heap.size + 1), 56, fc D E N), ((w.heap.size + 1 + 1), 56, fc 0 0 0), (g5, 24, ec n1), (g6, 24, ec n2), (g7, 24, ec n3), (g8, 24, ec n4), (g9, 24, ec n6), (g10, 24, ec n7), (g11, 24, ec 0)] := h.put (i := 8) rfl q hg
              clear q hg hz
              refine hK.out _ _ ⟨h.row (i := 4) rfl, h.row (i := 7) rfl⟩ (fun hHeld => ?_)
              clear hK K
              refine allReadyH_oneL (i := 9) (by kernel_rfl) rfl (by rfl) (fun K hK => ?_)
              refine wp_store_R 24 _ _ rfl _ (ec n8) rfl rfl (h.row (i := 9) rfl) (ie4 _) rfl (ec_all _) ?_
              intro wz q hg hz
              replace h : Fr w wz [(w.heap.size, 56, fc A B M), ((w.heap.size + 1), 56, fc D E N), ((w.heap.size + 1 + 1), 56, fc 0 0 0), (g5, 24, ec n1), (g6, 24, ec n2), (g7, 24, ec n3), (g8, 24, ec n4), (g9, 24, ec n6), (g10, 24, ec n7), (g11, 24, ec n8)] := h.put (i := 9) rfl q hg
              clear q hg hz
              refine hK.out _ _ ⟨h.row (i := 4) rfl, h.row (i := 7) rfl⟩ (fun hHeld => ?_)
              clear hK K
              refine wpAnyH_done (by kernel_rfl) ?_ _
              refine NoPanic.normal ?_
              go_wp2
              go_meet
              case rel => exact ⟨_, _, rfl, rfl, h⟩
            · refine wp_alloc_R 24 rfl (ec 0) z4w ?_
              obtain ⟨g11, hgq, hq⟩ := h.more 9 24 (ec 0)
              replace h : Fr w _ [(w.heap.size, 56, fc A B M), ((w.heap.size + 1), 56, fc D E N), ((w.heap.size + 1 + 1), 56, fc 0 0 0), (g5, 24, ec n1), (g6, 24, ec n2), (g7, 24, ec n3), (g8, 24, ec n4), (g9, 24, ec n6), (g10, 24, ec 0), (g11, 24, ec 0)] := hq
              rw [hgq]
              clear hgq hq
              refine hK.out _ _ ⟨h.row (i := 4) rfl, h.row (i := 7) rfl⟩ (fun hHeld => ?_)
              clear hK K
              refine allReadyH_oneL (i := 5) (by kernel_rfl) rfl (by rfl) (fun K hK => ?_)
              go_simp
              refine (cn8 _).mono ?_
              rintro _ wn ⟨rfl, hb⟩
              replace h := h.below hb
              clear hb
              refine hK.out _ _ ⟨h.row (i := 4) rfl, h.row (i := 7) rfl⟩ (fun hHeld => ?_)
              clear hK K
              refine allReadyH_oneL (i := 8) (by kernel_rfl) rfl (by rfl) (fun K hK => ?_)
              refine wp_store_R 24 _ _ rfl _ (ec n7) rfl rfl (h.row (i := 8) rfl) (ie4 _) rfl (ec_all _) ?_
              intro wz q hg hz
              replace h : Fr w wz [(w.heap.size, 56, fc A B M), ((w.heap.size + 1), 56, fc D E N), ((w.heap.size + 1 + 1), 56, fc 0 0 0), (g5, 24, ec n1), (g6, 24, ec n2), (g7, 24, ec n3), (g8, 24, ec n4), (g9, 24, ec n6), (g10, 24, ec n7), (g11, 24, ec 0)] := h.put (i := 8) rfl q hg
              clear q hg hz
              refine hK.out _ _ ⟨h.row (i := 4) rfl, h.row (i := 7) rfl⟩ (fun hHeld => ?_)
              clear hK K
              refine allReadyH_oneL (i := 9) (by kernel_rfl) rfl (by rfl) (fun K hK => ?_)
              refine wp_store_R 24 _ _ rfl _ (ec n8) rfl rfl (h.row (i := 9) rfl) (ie4 _) rfl (ec_all _) ?_
              intro wz q hg hz
              replace h : Fr w wz [(w.heap.size, 56, fc A B M), ((w.heap.size + 1), 56, fc D E N), ((w.heap.size + 1 + 1), 56, fc 0 0 0), (g5, 24, ec n1), (g6, 24, ec n2), (g7, 24, ec n3), (g8, 24, ec n4), (g9, 24, ec n6), (g10, 24, ec n7), (g11, 24, ec n8)] := h.put (i := 9) rfl q hg
              clear q hg hz
              refine hK.out _ _ ⟨h.row (i := 4) rfl, h.row (i := 7) rfl⟩ (fun hHeld => ?_)
              clear hK K
              refine wpAnyH_done (by kernel_rfl) ?_ _
              refine NoPanic.normal ?_
              go_wp2
              go_meet
              case rel => exact ⟨_, _, rfl, rfl, h⟩
          · refine wp_alloc_R 24 rfl (ec 0) z4w ?_
            obtain ⟨g11, hgq, hq⟩ := h.more 9 24 (ec 0)
            replace h : Fr w _ [(w.heap.size, 56, fc A B M), ((w.heap.size + 1), 56, fc D E N), ((w.heap.size + 1 + 1), 56, fc 0 0 0), (g5, 24, ec n1), (g6, 24, ec n2), (g7, 24, ec n3), (g8, 24, ec n4), (g9, 24, ec n6), (g10, 24, ec 0), (g11, 24, ec 0)] := hq
            rw [hgq]
            clear hgq hq
            refine hK.out _ _ ⟨h.row (i := 4) rfl, h.row (i := 7) rfl⟩ (fun hHeld => ?_)
            clear hK K
            refine allReadyH_oneL (i := 2) (by kernel_rfl) rfl (by rfl) (fun K hK => ?_)
            go_simp
            refine (cn7 _).mono ?_
            rintro _ wn ⟨rfl, hb⟩
            replace h := h.below hb
            clear hb
            refine hK.out _ _ ⟨h.row (i := 4) rfl, h.row (i := 7) rfl⟩ (fun hHeld => ?_)
            clear hK K
            refine allReadyH_oneL (i := 5) (by kernel_rfl) rfl (by rfl) (fun K hK => ?_)
            go_simp
            refine (cn8 _).mono ?_
            rintro _ wn ⟨rfl, hb⟩
            replace h := h.below hb
            clear hb
            refine hK.out _ _ ⟨h.row (i := 4) rfl, h.row (i := 7) rfl⟩ (fun hHeld => ?_)
            clear hK K
            refine allReadyH_oneL (i := 8) (by kernel_rfl) rfl (by rfl) (fun K hK => ?_)
            refine wp_store_R 24 _ _ rfl _ (ec n7) rfl rfl (h.row (i := 8) rfl) (ie4 _) rfl (ec_all _) ?_
            intro wz q hg hz
            replace h : Fr w wz [(w.heap.size, 56, fc A B M), ((w.heap.size + 1), 56, fc D E N), ((w.heap.size + 1 + 1), 56, fc 0 0 0), (g5, 24, ec n1), (g6, 24, ec n2), (g7, 24, ec n3), (g8, 24, ec n4), (g9, 24, ec n6), (g10, 24, ec n7), (g11, 24, ec 0)] := h.put (i := 8) rfl q hg
            clear q hg hz
            refine hK.out _ _ ⟨h.row (i := 4) rfl, h.row (i := 7) rfl⟩ (fun hHeld => ?_)
            clear hK K
            refine allReadyH_oneL (i := 9) (by kernel_rfl) rfl (by rfl) (fun K hK => ?_)
            refine wp_store_R 24 _ _ rfl _ (ec n8) rfl rfl (h.row (i := 9) rfl) (ie4 _) rfl (ec_all _) ?_
            intro wz q hg hz
            replace h : Fr w wz [(w.heap.size, 56, fc A B M), ((w.heap.size + 1), 56, fc D E N), ((w.heap.size + 1 + 1), 56, fc 0 0 0), (g5, 24, ec n1), (g6, 24, ec n2), (g7, 24, ec n3), (g8, 24, ec n4), (g9, 24, ec n6), (g10, 24, ec n7), (g11, 24, ec n8)] := h.put (i := 9) rfl q hg
            clear q hg hz
            refine hK.out _ _ ⟨h.row (i := 4) rfl, h.row (i := 7) rfl⟩ (fun hHeld => ?_)
            clear hK K
            refine wpAnyH_done (by kernel_rfl) ?_ _
            refine NoPanic.normal ?_
            go_wp2
            go_meet
            case rel => exact ⟨_, _, rfl, rfl, h⟩
        · refine wp_alloc_R 24 rfl (ec 0) z4w ?_
          obtain ⟨g11, hgq, hq⟩ := h.more 8 24 (ec 0)
          replace h : Fr w _ [(w.heap.size, 56, fc A B M), ((w.heap.size + 1), 56, fc D E N), ((w.heap.size + 1 + 1), 56, fc 0 0 0), (g5, 24, ec n1), (g6, 24, ec n2), (g7, 24, ec n3), (g8, 24, ec n4), (g9, 24, ec n6), (g11, 24, ec 0)] := hq
          rw [hgq]
          clear hgq hq
          refine hK.out _ _ ⟨h.row (i := 4) rfl, h.row (i := 7) rfl⟩ (fun hHeld => ?_)
          clear hK K
          refine ready_twoL (i := 2) (j := 6) (by kernel_rfl) rfl rfl (by rfl) (by rfl) (fun K hK => ?_) (fun K hK => ?_)
          · go_simp
            refine (cn7 _).mono ?_
            rintro _ wn ⟨rfl, hb⟩
            replace h := h.below hb
            clear hb
            refine hK.out _ _ ⟨h.row (i := 4) rfl, h.row (i := 7) rfl⟩ (fun hHeld => ?_)
            clear hK K
            refine ready_twoL (i := 5) (j := 6) (by kernel_rfl) rfl rfl (by rfl) (by rfl) (fun K hK => ?_) (fun K hK => ?_)
            · go_simp
              refine (cn8 _).mono ?_
              rintro _ wn ⟨rfl, hb⟩
              replace h := h.below hb
              clear hb
              refine hK.out _ _ ⟨h.row (i := 4) rfl, h.row (i := 7) rfl⟩ (fun hHeld => ?_)
              clear hK K
              refine allReadyH_oneL (i := 6) (by kernel_rfl) rfl (by rfl) (fun K hK => ?_)
              refine wp_alloc_R 24 rfl (ec 0) z4w ?_
              obtain ⟨g10, hgq, hq⟩ := h.more 8 24 (ec 0)
              replace h : Fr w _ [(w.heap.size, 56, fc A B M), ((w.heap.size + 1), 56, fc D E N), ((w.heap.size + 1 + 1), 56, fc 0 0 0), (g5, 24, ec n1), (g6, 24, ec n2), (g7, 24, ec n3), (g8, 24, ec n4), (g9, 24, ec n6), (g10, 24, ec 0), (g11, 24, ec 0)] := hq
              rw [hgq]
              clear hgq hq
              refine hK.out _ _ ⟨h.row (i := 4) rfl, h.row (i := 7) rfl⟩ (fun hHeld => ?_)
              clear hK K
              refine allReadyH_oneL (i := 8) (by kernel_rfl) rfl (by rfl) (fun K hK => ?_)
              refine wp_store_R 24 _ _ rfl _ (ec n7) rfl rfl (h.row (i := 8) rfl) (ie4 _) rfl (ec_all _) ?_
              intro wz q hg hz
              replace h : Fr w wz [(w.heap.size, 56, fc A B M), ((w.heap.size + 1), 56, fc D E N), ((w.heap.size + 1 + 1), 56, fc 0 0 0), (g5, 24, ec n1), (g6, 24, ec n2), (g7, 24, ec n3), (g8, 24, ec n4), (g9, 24, ec n6), (g10, 24, ec n7), (g11, 24, ec 0)] := h.put (i := 8) rfl q hg
              clear q hg hz
              refine hK.out _ _ ⟨h.row (i := 4) rfl, h.row (i := 7) rfl⟩ (fun hHeld => ?_)
              clear hK K
              refine allReadyH_oneL (i := 9) (by kernel_rfl) rfl (by rfl) (fun K hK => ?_)
              refine wp_store_R 24 _ _ rfl _ (ec n8) rfl rfl (h.row (i := 9) rfl) (ie4 _) rfl (ec_all _) ?_
              intro wz q hg hz
              replace h : Fr w wz [(w.heap.size, 56, fc A B M), ((w.heap.size + 1), 56, fc D E N), ((w.heap.size + 1 + 1), 56, fc 0 0 0), (g5, 24, ec n1), (g6, 24, ec n2), (g7, 24, ec n3), (g8, 24, ec n4), (g9, 24, ec n6), (g10, 24, ec n7), (g11, 24, ec n8)] := h.put (i := 9) rfl q hg
              clear q hg hz
              refine hK.out _ _ ⟨h.row (i := 4) rfl, h.row (i := 7) rfl⟩ (fun hHeld => ?_)
              clear hK K
              refine wpAnyH_done (by kernel_rfl) ?_ _
              refine NoPanic.normal ?_
              go_wp2
              go_meet
              case rel => exact ⟨_, _, rfl, rfl, h⟩
            · refine wp_alloc_R 24 rfl (ec 0) z4w ?_
              obtain ⟨g10, hgq, hq⟩ := h.more 8 24 (ec 0)
              replace h : Fr w _ [(w.heap.size, 56, fc A B M), ((w.heap.size + 1), 56, fc D E N), ((w.heap.size + 1 + 1), 56, fc 0 0 0), (g5, 24, ec n1), (g6, 24, ec n2), (g7, 24, ec n3), (g8, 24, ec n4), (g9, 24, ec n6), (g10, 24, ec 0), (g11, 24, ec 0)] := hq
              rw [hgq]
              clear hgq hq
              refine hK.out _ _ ⟨h.row (i := 4) rfl, h.row (i := 7) rfl⟩ (fun hHeld => ?_)
              clear hK K
              refine allReadyH_oneL (i := 5) (by kernel_rfl) rfl (by rfl) (fun K hK => ?_)
              go_simp
              refine (cn8 _).mono ?_
              rintro _ wn ⟨rfl, hb⟩
              replace h := h.below hb
              clear hb
              refine hK.out _ _ ⟨h.row (i := 4) rfl, h.row (i := 7) rfl⟩ (fun hHeld => ?_)
              clear hK K
              refine allReadyH_oneL (i := 8) (by kernel_rfl) rfl (by rfl) (fun K hK => ?_)
              refine wp_store_R 24 _ _ rfl _ (ec n7) rfl rfl (h.row (i := 8) rfl) (ie4 _) rfl (ec_all _) ?_
              intro wz q hg hz
              replace h : Fr w wz [(w.heap.size, 56, fc A B M), ((w.heap.size + 1), 56, fc D E N), ((w.heap.size + 1 + 1), 56, fc 0 0 0), (g5, 24, ec n1), (g6, 24, ec n2), (g7, 24, ec n3), (g8, 24, ec n4), (g9, 24, ec n6), (g10, 24, ec n7), (g11, 24, ec 0)] := h.put (i := 8) rfl q hg
              clear q hg hz
              refine hK.out _ _ ⟨h.row (i := 4) rfl, h.row (i := 7) rfl⟩ (fun hHeld => ?_)
              clear hK K
              refine allReadyH_oneL (i := 9) (by kernel_rfl) rfl (by rfl) (fun K hK => ?_)
              refine wp_store_R 24 _ _ rfl _ (ec n8) rfl rfl (h.row (i := 9) rfl) (ie4 _) rfl (ec_all _) ?_
              intro wz q hg hz
              replace h : Fr w wz [(w.heap.size, 56, fc A B M), ((w.heap.size + 1), 56, fc D E N), ((w.heap.size + 1 + 1), 56, fc 0 0 0), (g5, 24, ec n1), (g6, 24, ec n2), (g7, 24, ec n3), (g8, 24, ec n4), (g9, 24, ec n6), (g10, 24, ec n7), (g11, 24, ec n8)] := h.put (i := 9) rfl q hg
              clear q hg hz
              refine hK.out _ _ ⟨h.row (i := 4) rfl, h.row (i := 7) rfl⟩ (fun hHeld => ?_)
              clear hK K
              refine wpAnyH_done (by kernel_rfl) ?_ _
              refine NoPanic.normal ?_
              go_wp2
              go_meet
              case rel => exact ⟨_, _, rfl, rfl, h⟩
          · refine wp_alloc_R 24 rfl (ec 0) z4w ?_
            obtain ⟨g10, hgq, hq⟩ := h.more 8 24 (ec 0)
            replace h : Fr w _ [(w.heap.size, 56, fc A B M), ((w.heap.size + 1), 56, fc D E N), ((w.heap.size + 1 + 1), 56, fc 0 0 0), (g5, 24, ec n1), (g6, 24, ec n2), (g7, 24, ec n3), (g8, 24, ec n4), (g9, 24, ec n6), (g10, 24, ec 0), (g11, 24, ec 0)] := hq
            rw [hgq]
            clear hgq hq
            refine hK.out _ _ ⟨h.row (i := 4) rfl, h.row (i := 7) rfl⟩ (fun hHeld => ?_)
            clear hK K
            refine allReadyH_oneL (i := 2) (by kernel_rfl) rfl (by rfl) (fun K hK => ?_)
            go_simp
            refine (cn7 _).mono ?_
            rintro _ wn ⟨rfl, hb⟩
            replace h := h.below hb
            clear hb
            refine hK.out _ _ ⟨h.row (i := 4) rfl, h.row (i := 7) rfl⟩ (fun hHeld => ?_)
            clear hK K
            refine allReadyH_oneL (i := 5) (by kernel_rfl) rfl (by rfl) (fun K hK => ?_)
            go_simp
            refine (cn8 _).mono ?_
            rintro _ wn ⟨rfl, hb⟩
            replace h := h.below hb
            clear hb
            refine hK.out _ _ ⟨h.row (i := 4) rfl, h.row (i := 7) rfl⟩ (fun hHeld => ?_)
            clear hK K
            refine allReadyH_oneL (i := 8) (by kernel_rfl) rfl (by rfl) (fun K hK => ?_)
            refine wp_store_R 24 _ _ rfl _ (ec n7) rfl rfl (h.row (i := 8) rfl) (ie4 _) rfl (ec_all _) ?_
            intro wz q hg hz
            replace h : Fr w wz [(w.heap.size, 56, fc A B M), ((w.heap.size + 1), 56, fc D E N), ((w.heap.size + 1 + 1), 56, fc 0 0 0), (g5, 24, ec n1), (g6, 24, ec n2), (g7, 24, ec n3), (g8, 24, ec n4), (g9, 24, ec n6), (g10, 24, ec n7), (g11, 24, ec 0)] := h.put (i := 8) rfl q hg
            clear q hg hz
            refine hK.out _ _ ⟨h.row (i := 4) rfl, h.row (i := 7) rfl⟩ (fun hHeld => ?_)
            clear hK K
            refine allReadyH_oneL (i := 9) (by kernel_rfl) rfl (by rfl) (fun K hK => ?_)
            refine wp_store_R 24 _ _ rfl _ (ec n8) rfl rfl (h.row (i := 9) rfl) (ie4 _) rfl (ec_all _) ?_
            intro wz q hg hz
            replace h : Fr w wz [(w.heap.size, 56, fc A B M), ((w.heap.size + 1), 56, fc D E N), ((w.heap.size + 1 + 1), 56, fc 0 0 0), (g5, 24, ec n1), (g6, 24, ec n2), (g7, 24, ec n3), (g8, 24, ec n4), (g9, 24, ec n6), (g10, 24, ec n7), (g11, 24, ec n8)] := h.put (i := 9) rfl q hg
            clear q hg hz
            refine hK.out _ _ ⟨h.row (i := 4) rfl, h.row (i := 7) rfl⟩ (fun hHeld => ?_)
            clear hK K
            refine wpAnyH_done (by kernel_rfl) ?_ _
            refine NoPanic.normal ?_
            go_wp2
            go_meet
            case rel => exact ⟨_, _, rfl, rfl, h⟩
      case rest =>
        clear h
        obtain ⟨g10, g11, rfl, rfl, h⟩ := hcut
        go_upto_region 6 with fail
        try simp only [Act.put, List.setIfInBounds_toArray, List.set_cons_zero, List.set_cons_succ]
        replace h := h.drew
        go_cut [12] (fun v12 wc => ∃ g12, v12 = .pointer (some ⟨g12, 0, none⟩) ∧ Fr w wc [(w.heap.size, 56, fc A B M), ((w.heap.size + 1), 56, fc D E N), ((w.heap.size + 1 + 1), 56, fc 0 0 0), (g5, 24, ec n1), (g6, 24, ec n2), (g7, 24, ec n3), (g8, 24, ec n4), (g9, 24, ec n6), (g10, 24, ec n7), (g11, 24, ec n8), (g12, 24, ec n11)])
        case first =>
          refine wp_region_noPanic ?_
          refine wp_region_held_drew (S := fun w' => Row w' w.heap.size 56 (fc A B M) ∧ Row w' (w.heap.size + 1) 56 (fc D E N)) (by kernel_rfl) ⟨h.row (i := 0) rfl, h.row (i := 1) rfl⟩ (fun hHeld => ?_)
          refine wpAnyH_takeL (i := 0) (v := ?vt15) rfl (by kernel_rfl) (by kernel_rfl) (by kernel_rfl) (fun _ _ _ h => h) (by rfl) ?ht15 (by assumption) ?_
          case ht15 => intro w hSw; go_simp <;> with_reducible rfl
          simp only [Act.put, List.setIfInBounds_toArray, List.set_cons_zero, List.set_cons_succ]
          refine wpAnyH_takeL (i := 1) (v := (.agg (ec A).toArray)) rfl (by kernel_rfl) (by kernel_rfl) (by kernel_rfl) (fun _ _ _ h => h) (by rfl) ?ht16 (by assumption) ?_
          case ht16 => intro w hSw; exact exec_load_at 24 _ rfl rfl (fc_x hSw.1) rfl Tryd.underlying24 (ie4 _)
          simp only [Act.put, List.setIfInBounds_toArray, List.set_cons_zero, List.set_cons_succ]
          refine wpAnyH_takeL (i := 2) (v := ?vt17) rfl (by kernel_rfl) (by kernel_rfl) (by kernel_rfl) (fun _ _ _ h => h) (by rfl) ?ht17 (by assumption) ?_
          case ht17 => intro w hSw; go_simp <;> with_reducible rfl
          simp only [Act.put, List.setIfInBounds_toArray, List.set_cons_zero, List.set_cons_succ]
          refine wpAnyH_takeL (i := 3) (v := (.agg (ec E).toArray)) rfl (by kernel_rfl) (by kernel_rfl) (by kernel_rfl) (fun _ _ _ h => h) (by rfl) ?ht18 (by assumption) ?_
          case ht18 => intro w hSw; exact exec_load_at 24 _ rfl rfl (fc_y hSw.2) rfl Tryd.underlying24 (ie4 _)
          simp only [Act.put, List.setIfInBounds_toArray, List.set_cons_zero, List.set_cons_succ]
          refine wpAnyH_takeL (i := 5) (v := ?vt19) rfl (by kernel_rfl) (by kernel_rfl) (by kernel_rfl) (fun _ _ _ h => h) (by rfl) ?ht19 (by assumption) ?_
          case ht19 => intro w hSw; go_simp <;> with_reducible rfl
          simp only [Act.put, List.setIfInBounds_toArray, List.set_cons_zero, List.set_cons_succ]
          refine wpAnyH_takeL (i := 6) (v := (.agg (ec D).toArray)) rfl (by kernel_rfl) (by kernel_rfl) (by kernel_rfl) (fun _ _ _ h => h) (by rfl) ?ht20 (by assumption) ?_
          case ht20 => intro w hSw; exact exec_load_at 24 _ rfl rfl (fc_x hSw.2) rfl Tryd.underlying24 (ie4 _)
          simp only [Act.put, List.setIfInBounds_toArray, List.set_cons_zero, List.set_cons_succ]
          refine wpAnyH_takeL (i := 7) (v := ?vt21) rfl (by kernel_rfl) (by kernel_rfl) (by kernel_rfl) (fun _ _ _ h => h) (by rfl) ?ht21 (by assumption) ?_
          case ht21 => intro w hSw; go_simp <;> with_reducible rfl
          simp only [Act.put, List.setIfInBounds_toArray, List.set_cons_zero, List.set_cons_succ]
          refine wpAnyH_takeL (i := 8) (v := (.agg (ec B).toArray)) rfl (by kernel_rfl) (by kernel_rfl) (by kernel_rfl) (fun _ _ _ h => h) (by rfl) ?ht22 (by assumption) ?_
          case ht22 => intro w hSw; exact exec_load_at 24 _ rfl rfl (fc_y hSw.1) rfl Tryd.underlying24 (ie4 _)
          simp only [Act.put, List.setIfInBounds_toArray, List.set_cons_zero, List.set_cons_succ]
          refine ready_twoL (i := 4) (j := 11) (by kernel_rfl) rfl rfl (by rfl) (by rfl) (fun K hK => ?_) (fun K hK => ?_)
          · go_simp
            refine (cn9 _).mono ?_
            rintro _ wn ⟨rfl, hb⟩
            replace h := h.below hb
            clear hb
            refine hK.out _ _ ⟨h.row (i := 0) rfl, h.row (i := 1) rfl⟩ (fun hHeld => ?_)
            clear hK K
            refine ready_twoL (i := 9) (j := 11) (by kernel_rfl) rfl rfl (by rfl) (by rfl) (fun K hK => ?_) (fun K hK => ?_)
            · go_simp
              refine (cn10 _).mono ?_
              rintro _ wn ⟨rfl, hb⟩
              replace h := h.below hb
              clear hb
              refine hK.out _ _ ⟨h.row (i := 0) rfl, h.row (i := 1) rfl⟩ (fun hHeld => ?_)
              clear hK K
              refine ready_twoL (i := 10) (j := 11) (by kernel_rfl) rfl rfl (by rfl) (by rfl) (fun K hK => ?_) (fun K hK => ?_)
              · go_simp
                refine (cn11 _).mono ?_
                rintro _ wn ⟨rfl, hb⟩
                replace h := h.below hb
                clear hb
                refine hK.out _ _ ⟨h.row (i := 0) rfl, h.row (i := 1) rfl⟩ (fun hHeld => ?_)
                clear hK K
                refine allReadyH_oneL (i := 11) (by kernel_rfl) rfl (by rfl) (fun K hK => ?_)
                refine wp_alloc_R 24 rfl (ec 0) z4w ?_
                obtain ⟨g12, hgq, hq⟩ := h.more 10 24 (ec 0)
                replace h : Fr w _ [(w.heap.size, 56, fc A B M), ((w.heap.size + 1), 56, fc D E N), ((w.heap.size + 1 + 1), 56, fc 0 0 0), (g5, 24, ec n1), (g6, 24, ec n2), (g7, 24, ec n3), (g8, 24, ec n4), (g9, 24, ec n6), (g10, 24, ec n7), (g11, 24, ec n8), (g12, 24, ec 0)] := hq
                rw [hgq]
                clear hgq hq
                refine hK.out _ _ ⟨h.row (i := 0) rfl, h.row (i := 1) rfl⟩ (fun hHeld => ?_)
                clear hK K
                refine allReadyH_oneL (i := 12) (by kernel_rfl) rfl (by rfl) (fun K hK => ?_)
                refine wp_store_R 24 _ _ rfl _ (ec n11) rfl rfl (h.row (i := 10) rfl) (ie4 _) rfl (ec_all _) ?_
                intro wz q hg hz
                replace h : Fr w wz [(w.heap.size, 56, fc A B M), ((w.heap.size + 1), 56, fc D E N), ((w.heap.size + 1 + 1), 56, fc 0 0 0), (g5, 24, ec n1), (g6, 24, ec n2), (g7, 24, ec n3), (g8, 24, ec n4), (g9, 24, ec n6), (g10, 24, ec n7), (g11, 24, ec n8), (g12, 24, ec n11)] := h.put (i := 10) rfl q hg
                clear q hg hz
                refine hK.out _ _ ⟨h.row (i := 0) rfl, h.row (i := 1) rfl⟩ (fun hHeld => ?_)
                clear hK K
                refine wpAnyH_done (by kernel_rfl) ?_ _
                refine NoPanic.normal ?_
                go_wp2
                go_meet
                case rel => exact ⟨_, rfl, h⟩
              · refine wp_alloc_R 24 rfl (ec 0) z4w ?_
                obtain ⟨g12, hgq, hq⟩ := h.more 10 24 (ec 0)
                replace h : Fr w _ [(w.heap.size, 56, fc A B M), ((w.heap.size + 1), 56, fc D E N), ((w.heap.size + 1 + 1), 56, fc 0 0 0), (g5, 24, ec n1), (g6, 24, ec n2), (g7, 24, ec n3), (g8, 24, ec n4), (g9, 24, ec n6), (g10, 24, ec n7), (g11, 24, ec n8), (g12, 24, ec 0)] := hq
                rw [hgq]
                clear hgq hq
                refine hK.out _ _ ⟨h.row (i := 0) rfl, h.row (i := 1) rfl⟩ (fun hHeld => ?_)
                clear hK K
                refine allReadyH_oneL (i := 10) (by kernel_rfl) rfl (by rfl) (fun K hK => ?_)
                go_simp
                refine (cn11 _).mono ?_
                rintro _ wn ⟨rfl, hb⟩
                replace h := h.below hb
                clear hb
                refine hK.out _ _ ⟨h.row (i := 0) rfl, h.row (i := 1) rfl⟩ (fun hHeld => ?_)
                clear hK K
                refine allReadyH_oneL (i := 12) (by kernel_rfl) rfl (by rfl) (fun K hK => ?_)
                refine wp_store_R 24 _ _ rfl _ (ec n11) rfl rfl (h.row (i := 10) rfl) (ie4 _) rfl (ec_all _) ?_
                intro wz q hg hz
                replace h : Fr w wz [(w.heap.size, 56, fc A B M), ((w.heap.size + 1), 56, fc D E N), ((w.heap.size + 1 + 1), 56, fc 0 0 0), (g5, 24, ec n1), (g6, 24, ec n2), (g7, 24, ec n3), (g8, 24, ec n4), (g9, 24, ec n6), (g10, 24, ec n7), (g11, 24, ec n8), (g12, 24, ec n11)] := h.put (i := 10) rfl q hg
                clear q hg hz
                refine hK.out _ _ ⟨h.row (i := 0) rfl, h.row (i := 1) rfl⟩ (fun hHeld => ?_)
                clear hK K
                refine wpAnyH_done (by kernel_rfl) ?_ _
                refine NoPanic.normal ?_
                go_wp2
                go_meet
                case rel => exact ⟨_, rfl, h⟩
            · refine wp_alloc_R 24 rfl (ec 0) z4w ?_
              obtain ⟨g12, hgq, hq⟩ := h.more 10 24 (ec 0)
              replace h : Fr w _ [(w.heap.size, 56, fc A B M), ((w.heap.size + 1), 56, fc D E N), ((w.heap.size + 1 + 1), 56, fc 0 0 0), (g5, 24, ec n1), (g6, 24, ec n2), (g7, 24, ec n3), (g8, 24, ec n4), (g9, 24, ec n6), (g10, 24, ec n7), (g11, 24, ec n8), (g12, 24, ec 0)] := hq
              rw [hgq]
              clear hgq hq
              refine hK.out _ _ ⟨h.row (i := 0) rfl, h.row (i := 1) rfl⟩ (fun hHeld => ?_)
              clear hK K
              refine allReadyH_oneL (i := 9) (by kernel_rfl) rfl (by rfl) (fun K hK => ?_)
              go_simp
              refine (cn10 _).mono ?_
              rintro _ wn ⟨rfl, hb⟩
              replace h := h.below hb
              clear hb
              refine hK.out _ _ ⟨h.row (i := 0) rfl, h.row (i := 1) rfl⟩ (fun hHeld => ?_)
              clear hK K
              refine allReadyH_oneL (i := 10) (by kernel_rfl) rfl (by rfl) (fun K hK => ?_)
              go_simp
              refine (cn11 _).mono ?_
              rintro _ wn ⟨rfl, hb⟩
              replace h := h.below hb
              clear hb
              refine hK.out _ _ ⟨h.row (i := 0) rfl, h.row (i := 1) rfl⟩ (fun hHeld => ?_)
              clear hK K
              refine allReadyH_oneL (i := 12) (by kernel_rfl) rfl (by rfl) (fun K hK => ?_)
              refine wp_store_R 24 _ _ rfl _ (ec n11) rfl rfl (h.row (i := 10) rfl) (ie4 _) rfl (ec_all _) ?_
              intro wz q hg hz
              replace h : Fr w wz [(w.heap.size, 56, fc A B M), ((w.heap.size + 1), 56, fc D E N), ((w.heap.size + 1 + 1), 56, fc 0 0 0), (g5, 24, ec n1), (g6, 24, ec n2), (g7, 24, ec n3), (g8, 24, ec n4), (g9, 24, ec n6), (g10, 24, ec n7), (g11, 24, ec n8), (g12, 24, ec n11)] := h.put (i := 10) rfl q hg
              clear q hg hz
              refine hK.out _ _ ⟨h.row (i := 0) rfl, h.row (i := 1) rfl⟩ (fun hHeld => ?_)
              clear hK K
              refine wpAnyH_done (by kernel_rfl) ?_ _
              refine NoPanic.normal ?_
              go_wp2
              go_meet
              case rel => exact ⟨_, rfl, h⟩
          · refine wp_alloc_R 24 rfl (ec 0) z4w ?_
            obtain ⟨g12, hgq, hq⟩ := h.more 10 24 (ec 0)
            replace h : Fr w _ [(w.heap.size, 56, fc A B M), ((w.heap.size + 1), 56, fc D E N), ((w.heap.size + 1 + 1), 56, fc 0 0 0), (g5, 24, ec n1), (g6, 24, ec n2), (g7, 24, ec n3), (g8, 24, ec n4), (g9, 24, ec n6), (g10, 24, ec n7), (g11, 24, ec n8), (g12, 24, ec 0)] := hq
            rw [hgq]
            clear hgq hq
            refine hK.out _ _ ⟨h.row (i := 0) rfl, h.row (i := 1) rfl⟩ (fun hHeld => ?_)
            clear hK K
            refine allReadyH_oneL (i := 4) (by kernel_rfl) rfl (by rfl) (fun K hK => ?_)
            go_simp
            refine (cn9 _).mono ?_
            rintro _ wn ⟨rfl, hb⟩
            replace h := h.below hb
            clear hb
            refine hK.out _ _ ⟨h.row (i := 0) rfl, h.row (i := 1) rfl⟩ (fun hHeld => ?_)
            clear hK K
            refine allReadyH_oneL (i := 9) (by kernel_rfl) rfl (by rfl) (fun K hK => ?_)
            go_simp
            refine (cn10 _).mono ?_
            rintro _ wn ⟨rfl, hb⟩
            replace h := h.below hb
            clear hb
            refine hK.out _ _ ⟨h.row (i := 0) rfl, h.row (i := 1) rfl⟩ (fun hHeld => ?_)
            clear hK K
            refine allReadyH_oneL (i := 10) (by kernel_rfl) rfl (by rfl) (fun K hK => ?_)
            go_simp
            refine (cn11 _).mono ?_
            rintro _ wn ⟨rfl, hb⟩
            replace h := h.below hb
            clear hb
            refine hK.out _ _ ⟨h.row (i := 0) rfl, h.row (i := 1) rfl⟩ (fun hHeld => ?_)
            clear hK K
            refine allReadyH_oneL (i := 12) (by kernel_rfl) rfl (by rfl) (fun K hK => ?_)
            refine wp_store_R 24 _ _ rfl _ (ec n11) rfl rfl (h.row (i := 10) rfl) (ie4 _) rfl (ec_all _) ?_
            intro wz q hg hz
            replace h : Fr w wz [(w.heap.size, 56, fc A B M), ((w.heap.size + 1), 56, fc D E N), ((w.heap.size + 1 + 1), 56, fc 0 0 0), (g5, 24, ec n1), (g6, 24, ec n2), (g7, 24, ec n3), (g8, 24, ec n4), (g9, 24, ec n6), (g10, 24, ec n7), (g11, 24, ec n8), (g12, 24, ec n11)] := h.put (i := 10) rfl q hg
            clear q hg hz
            refine hK.out _ _ ⟨h.row (i := 0) rfl, h.row (i := 1) rfl⟩ (fun hHeld => ?_)
            clear hK K
            refine wpAnyH_done (by kernel_rfl) ?_ _
            refine NoPanic.normal ?_
            go_wp2
            go_meet
            case rel => exact ⟨_, rfl, h⟩
        case rest =>
          clear h
          obtain ⟨g12, rfl, h⟩ := hcut
          go_upto_region 7 with fail
          try simp only [Act.put, List.setIfInBounds_toArray, List.set_cons_zero, List.set_cons_succ]
          replace h := h.drew
          go_cut [13] (fun v13 wc => ∃ g13, v13 = .pointer (some ⟨g13, 0, none⟩) ∧ Fr w wc [(w.heap.size, 56, fc A B M), ((w.heap.size + 1), 56, fc D E N), ((w.heap.size + 1 + 1), 56, fc 0 0 0), (g5, 24, ec n1), (g6, 24, ec n2), (g7, 24, ec n3), (g8, 24, ec n4), (g9, 24, ec n6), (g10, 24, ec n7), (g11, 24, ec n8), (g12, 24, ec n11), (g13, 24, ec n13)])
          case first =>
            refine wp_region_noPanic ?_
            refine wp_region_held_drew (S := fun w' => Row w' g5 24 (ec n1) ∧ Row w' g10 24 (ec n7) ∧ Row w' g12 24 (ec n11)) (by kernel_rfl) ⟨h.row (i := 3) rfl, h.row (i := 8) rfl, h.row (i := 10) rfl⟩ (fun hHeld => ?_)
            refine wpAnyH_takeL (i := 0) (v := (.agg (ec n1).toArray)) rfl (by kernel_rfl) (by kernel_rfl) (by kernel_rfl) (fun _ _ _ h => h) (by rfl) ?ht23 (by assumption) ?_
            case ht23 => intro w hSw; exact exec_load_W 24 _ rfl rfl hSw.1 Tryd.underlying24 rfl (ie4 _)
            simp only [Act.put, List.setIfInBounds_toArray, List.set_cons_zero, List.set_cons_succ]
            refine wpAnyH_takeL (i := 1) (v := (.agg (ec n7).toArray)) rfl (by kernel_rfl) (by kernel_rfl) (by kernel_rfl) (fun _ _ _ h => h) (by rfl) ?ht24 (by assumption) ?_
            case ht24 => intro w hSw; exact exec_load_W 24 _ rfl rfl hSw.2.1 Tryd.underlying24 rfl (ie4 _)
            simp only [Act.put, List.setIfInBounds_toArray, List.set_cons_zero, List.set_cons_succ]
            refine wpAnyH_takeL (i := 2) (v := (.agg (ec n11).toArray)) rfl (by kernel_rfl) (by kernel_rfl) (by kernel_rfl) (fun _ _ _ h => h) (by rfl) ?ht25 (by assumption) ?_
            case ht25 => intro w hSw; exact exec_load_W 24 _ rfl rfl hSw.2.2 Tryd.underlying24 rfl (ie4 _)
            simp only [Act.put, List.setIfInBounds_toArray, List.set_cons_zero, List.set_cons_succ]
            refine ready_twoL (i := 3) (j := 5) (by kernel_rfl) rfl rfl (by rfl) (by rfl) (fun K hK => ?_) (fun K hK => ?_)
            · go_simp
              refine (cn12 _).mono ?_
              rintro _ wn ⟨rfl, hb⟩
              replace h := h.below hb
              clear hb
              refine hK.out _ _ ⟨h.row (i := 3) rfl, h.row (i := 8) rfl, h.row (i := 10) rfl⟩ (fun hHeld => ?_)
              clear hK K
              refine ready_twoL (i := 4) (j := 5) (by kernel_rfl) rfl rfl (by rfl) (by rfl) (fun K hK => ?_) (fun K hK => ?_)
              · go_simp
                refine (cn13 _).mono ?_
                rintro _ wn ⟨rfl, hb⟩
                replace h := h.below hb
                clear hb
                refine hK.out _ _ ⟨h.row (i := 3) rfl, h.row (i := 8) rfl, h.row (i := 10) rfl⟩ (fun hHeld => ?_)
                clear hK K
                refine allReadyH_oneL (i := 5) (by kernel_rfl) rfl (by rfl) (fun K hK => ?_)
                refine wp_alloc_R 24 rfl (ec 0) z4w ?_
                obtain ⟨g13, hgq, hq⟩ := h.more 11 24 (ec 0)
                replace h : Fr w _ [(w.heap.size, 56, fc A B M), ((w.heap.size + 1), 56, fc D E N), ((w.heap.size + 1 + 1), 56, fc 0 0 0), (g5, 24, ec n1), (g6, 24, ec n2), (g7, 24, ec n3), (g8, 24, ec n4), (g9, 24, ec n6), (g10, 24, ec n7), (g11, 24, ec n8), (g12, 24, ec n11), (g13, 24, ec 0)] := hq
                rw [hgq]
                clear hgq hq
                refine hK.out _ _ ⟨h.row (i := 3) rfl, h.row (i := 8) rfl, h.row (i := 10) rfl⟩ (fun hHeld => ?_)
                clear hK K
                refine allReadyH_oneL (i := 6) (by kernel_rfl) rfl (by rfl) (fun K hK => ?_)
                refine wp_store_R 24 _ _ rfl _ (ec n13) rfl rfl (h.row (i := 11) rfl) (ie4 _) rfl (ec_all _) ?_
                intro wz q hg hz
                replace h : Fr w wz [(w.heap.size, 56, fc A B M), ((w.heap.size + 1), 56, fc D E N), ((w.heap.size + 1 + 1), 56, fc 0 0 0), (g5, 24, ec n1), (g6, 24, ec n2), (g7, 24, ec n3), (g8, 24, ec n4), (g9, 24, ec n6), (g10, 24, ec n7), (g11, 24, ec n8), (g12, 24, ec n11), (g13, 24, ec n13)] := h.put (i := 11) rfl q hg
                clear q hg hz
                refine hK.out _ _ ⟨h.row (i := 3) rfl, h.row (i := 8) rfl, h.row (i := 10) rfl⟩ (fun hHeld => ?_)
                clear hK K
                refine wpAnyH_done (by kernel_rfl) ?_ _
                refine NoPanic.normal ?_
                go_wp2
                go_meet
                case rel => exact ⟨_, rfl, h⟩
              · refine wp_alloc_R 24 rfl (ec 0) z4w ?_
                obtain ⟨g13, hgq, hq⟩ := h.more 11 24 (ec 0)
                replace h : Fr w _ [(w.heap.size, 56, fc A B M), ((w.heap.size + 1), 56, fc D E N), ((w.heap.size + 1 + 1), 56, fc 0 0 0), (g5, 24, ec n1), (g6, 24, ec n2), (g7, 24, ec n3), (g8, 24, ec n4), (g9, 24, ec n6), (g10, 24, ec n7), (g11, 24, ec n8), (g12, 24, ec n11), (g13, 24, ec 0)] := hq
                rw [hgq]
                clear hgq hq
                refine hK.out _ _ ⟨h.row (i := 3) rfl, h.row (i := 8) rfl, h.row (i := 10) rfl⟩ (fun hHeld => ?_)
                clear hK K
                refine allReadyH_oneL (i := 4) (by kernel_rfl) rfl (by rfl) (fun K hK => ?_)
                go_simp
                refine (cn13 _).mono ?_
                rintro _ wn ⟨rfl, hb⟩
                replace h := h.below hb
                clear hb
                refine hK.out _ _ ⟨h.row (i := 3) rfl, h.row (i := 8) rfl, h.row (i := 10) rfl⟩ (fun hHeld => ?_)
                clear hK K
                refine allReadyH_oneL (i := 6) (by kernel_rfl) rfl (by rfl) (fun K hK => ?_)
                refine wp_store_R 24 _ _ rfl _ (ec n13) rfl rfl (h.row (i := 11) rfl) (ie4 _) rfl (ec_all _) ?_
                intro wz q hg hz
                replace h : Fr w wz [(w.heap.size, 56, fc A B M), ((w.heap.size + 1), 56, fc D E N), ((w.heap.size + 1 + 1), 56, fc 0 0 0), (g5, 24, ec n1), (g6, 24, ec n2), (g7, 24, ec n3), (g8, 24, ec n4), (g9, 24, ec n6), (g10, 24, ec n7), (g11, 24, ec n8), (g12, 24, ec n11), (g13, 24, ec n13)] := h.put (i := 11) rfl q hg
                clear q hg hz
                refine hK.out _ _ ⟨h.row (i := 3) rfl, h.row (i := 8) rfl, h.row (i := 10) rfl⟩ (fun hHeld => ?_)
                clear hK K
                refine wpAnyH_done (by kernel_rfl) ?_ _
                refine NoPanic.normal ?_
                go_wp2
                go_meet
                case rel => exact ⟨_, rfl, h⟩
            · refine wp_alloc_R 24 rfl (ec 0) z4w ?_
              obtain ⟨g13, hgq, hq⟩ := h.more 11 24 (ec 0)
              replace h : Fr w _ [(w.heap.size, 56, fc A B M), ((w.heap.size + 1), 56, fc D E N), ((w.heap.size + 1 + 1), 56, fc 0 0 0), (g5, 24, ec n1), (g6, 24, ec n2), (g7, 24, ec n3), (g8, 24, ec n4), (g9, 24, ec n6), (g10, 24, ec n7), (g11, 24, ec n8), (g12, 24, ec n11), (g13, 24, ec 0)] := hq
              rw [hgq]
              clear hgq hq
              refine hK.out _ _ ⟨h.row (i := 3) rfl, h.row (i := 8) rfl, h.row (i := 10) rfl⟩ (fun hHeld => ?_)
              clear hK K
              refine allReadyH_oneL (i := 3) (by kernel_rfl) rfl (by rfl) (fun K hK => ?_)
              go_simp
              refine (cn12 _).mono ?_
              rintro _ wn ⟨rfl, hb⟩
              replace h := h.below hb
              clear hb
              refine hK.out _ _ ⟨h.row (i := 3) rfl, h.row (i := 8) rfl, h.row (i := 10) rfl⟩ (fun hHeld => ?_)
              clear hK K
              refine allReadyH_oneL (i := 4) (by kernel_rfl) rfl (by rfl) (fun K hK => ?_)
              go_simp
              refine (cn13 _).mono ?_
              rintro _ wn ⟨rfl, hb⟩
              replace h := h.below hb
              clear hb
              refine hK.out _ _ ⟨h.row (i := 3) rfl, h.row (i := 8) rfl, h.row (i := 10) rfl⟩ (fun hHeld => ?_)
              clear hK K
              refine allReadyH_oneL (i := 6) (by kernel_rfl) rfl (by rfl) (fun K hK => ?_)
              refine wp_store_R 24 _ _ rfl _ (ec n13) rfl rfl (h.row (i := 11) rfl) (ie4 _) rfl (ec_all _) ?_
              intro wz q hg hz
              replace h : Fr w wz [(w.heap.size, 56, fc A B M), ((w.heap.size + 1), 56, fc D E N), ((w.heap.size + 1 + 1), 56, fc 0 0 0), (g5, 24, ec n1), (g6, 24, ec n2), (g7, 24, ec n3), (g8, 24, ec n4), (g9, 24, ec n6), (g10, 24, ec n7), (g11, 24, ec n8), (g12, 24, ec n11), (g13, 24, ec n13)] := h.put (i := 11) rfl q hg
              clear q hg hz
              refine hK.out _ _ ⟨h.row (i := 3) rfl, h.row (i := 8) rfl, h.row (i := 10) rfl⟩ (fun hHeld => ?_)
              clear hK K
              refine wpAnyH_done (by kernel_rfl) ?_ _
              refine NoPanic.normal ?_
              go_wp2
              go_meet
              case rel => exact ⟨_, rfl, h⟩
          case rest =>
            clear h
            obtain ⟨g13, rfl, h⟩ := hcut
            go_upto_region 8 with fail
            try simp only [Act.put, List.setIfInBounds_toArray, List.set_cons_zero, List.set_cons_succ]
            replace h := h.drew
            go_cut [14] (fun v14 wc => ∃ g14, v14 = .pointer (some ⟨g14, 0, none⟩) ∧ Fr w wc [(w.heap.size, 56, fc A B M), ((w.heap.size + 1), 56, fc D E N), ((w.heap.size + 1 + 1), 56, fc 0 0 0), (g5, 24, ec n1), (g6, 24, ec n2), (g7, 24, ec n3), (g8, 24, ec n4), (g9, 24, ec n6), (g10, 24, ec n7), (g11, 24, ec n8), (g12, 24, ec n11), (g13, 24, ec n13), (g14, 24, ec n16)])
            case first =>
              refine wp_region_noPanic ?_
              refine wp_region_held_drew (S := fun w' => Row w' g5 24 (ec n1) ∧ Row w' g11 24 (ec n8) ∧ Row w' g7 24 (ec n3) ∧ Row w' g8 24 (ec n4)) (by kernel_rfl) ⟨h.row (i := 3) rfl, h.row (i := 9) rfl, h.row (i := 5) rfl, h.row (i := 6) rfl⟩ (fun hHeld => ?_)
              refine wpAnyH_takeL (i := 0) (v := (.agg (ec n1).toArray)) rfl (by kernel_rfl) (by kernel_rfl) (by kernel_rfl) (fun _ _ _ h => h) (by rfl) ?ht26 (by assumption) ?_
              case ht26 => intro w hSw; exact exec_load_W 24 _ rfl rfl hSw.1 Tryd.underlying24 rfl (ie4 _)
              simp only [Act.put, List.setIfInBounds_toArray, List.set_cons_zero, List.set_cons_succ]
              refine wpAnyH_takeL (i := 1) (v := (.agg (ec n8).toArray)) rfl (by kernel_rfl) (by kernel_rfl) (by kernel_rfl) (fun _ _ _ h => h) (by rfl) ?ht27 (by assumption) ?_
              case ht27 => intro w hSw; exact exec_load_W 24 _ rfl rfl hSw.2.1 Tryd.underlying24 rfl (ie4 _)
              simp only [Act.put, List.setIfInBounds_toArray, List.set_cons_zero, List.set_cons_succ]
              refine wpAnyH_takeL (i := 2) (v := (.agg (ec n3).toArray)) rfl (by kernel_rfl) (by kernel_rfl) (by kernel_rfl) (fun _ _ _ h => h) (by rfl) ?ht28 (by assumption) ?_
              case ht28 => intro w hSw; exact exec_load_W 24 _ rfl rfl hSw.2.2.1 Tryd.underlying24 rfl (ie4 _)
              simp only [Act.put, List.setIfInBounds_toArray, List.set_cons_zero, List.set_cons_succ]
              refine wpAnyH_takeL (i := 3) (v := (.agg (ec n4).toArray)) rfl (by kernel_rfl) (by kernel_rfl) (by kernel_rfl) (fun _ _ _ h => h) (by rfl) ?ht29 (by assumption) ?_
              case ht29 => intro w hSw; exact exec_load_W 24 _ rfl rfl hSw.2.2.2 Tryd.underlying24 rfl (ie4 _)
              simp only [Act.put, List.setIfInBounds_toArray, List.set_cons_zero, List.set_cons_succ]
              refine ready_twoL (i := 4) (j := 7) (by kernel_rfl) rfl rfl (by rfl) (by rfl) (fun K hK => ?_) (fun K hK => ?_)
              · go_simp
                refine (cn14 _).mono ?_
                rintro _ wn ⟨rfl, hb⟩
                replace h := h.below hb
                clear hb
                refine hK.out _ _ ⟨h.row (i := 3) rfl, h.row (i := 9) rfl, h.row (i := 5) rfl, h.row (i := 6) rfl⟩ (fun hHeld => ?_)
                clear hK K
                refine ready_twoL (i := 5) (j := 7) (by kernel_rfl) rfl rfl (by rfl) (by rfl) (fun K hK => ?_) (fun K hK => ?_)
                · go_simp
                  refine (cn15 _).mono ?_
                  rintro _ wn ⟨rfl, hb⟩
                  replace h := h.below hb
                  clear hb
                  refine hK.out _ _ ⟨h.row (i := 3) rfl, h.row (i := 9) rfl, h.row (i := 5) rfl, h.row (i := 6) rfl⟩ (fun hHeld => ?_)
                  clear hK K
                  refine ready_twoL (i := 6) (j := 7) (by kernel_rfl) rfl rfl (by rfl) (by rfl) (fun K hK => ?_) (fun K hK => ?_)
                  · go_simp
                    refine (cn16 _).mono ?_
                    rintro _ wn ⟨rfl, hb⟩
                    replace h := h.below hb
                    clear hb
                    refine hK.out _ _ ⟨h.row (i := 3) rfl, h.row (i := 9) rfl, h.row (i := 5) rfl, h.row (i := 6) rfl⟩ (fun hHeld => ?_)
                    clear hK K
                    refine allReadyH_oneL (i := 7) (by kernel_rfl) rfl (by rfl) (fun K hK => ?_)
                    refine wp_alloc_R 24 rfl (ec 0) z4w ?_
                    obtain ⟨g14, hgq, hq⟩ := h.more 12 24 (ec 0)
                    replace h : Fr w _ [(w.heap.size, 56, fc A B M), ((w.heap.size + 1), 56, fc D E N), ((w.heap.size + 1 + 1), 56, fc 0 0 0), (g5, 24, ec n1), (g6, 24, ec n2), (g7, 24, ec n3), (g8, 24, ec n4), (g9, 24, ec n6), (g10, 24, ec n7), (g11, 24, ec n8), (g12, 24, ec n11), (g13, 24, ec n13), (g14, 24, ec 0)] := hq
                    rw [hgq]
                    clear hgq hq
                    refine hK.out _ _ ⟨h.row (i := 3) rfl, h.row (i := 9) rfl, h.row (i := 5) rfl, h.row (i := 6) rfl⟩ (fun hHeld => ?_)
                    clear hK K
                    refine allReadyH_oneL (i := 8) (by kernel_rfl) rfl (by rfl) (fun K hK => ?_)
                    refine wp_store_R 24 _ _ rfl _ (ec n16) rfl rfl (h.row (i := 12) rfl) (ie4 _) rfl (ec_all _) ?_
                    intro wz q hg hz
                    replace h : Fr w wz [(w.heap.size, 56, fc A B M), ((w.heap.size + 1), 56, fc D E N), ((w.heap.size + 1 + 1), 56, fc 0 0 0), (g5, 24, ec n1), (g6, 24, ec n2), (g7, 24, ec n3), (g8, 24, ec n4), (g9, 24, ec n6), (g10, 24, ec n7), (g11, 24, ec n8), (g12, 24, ec n11), (g13, 24, ec n13), (g14, 24, ec n16)] := h.put (i := 12) rfl q hg
                    clear q hg hz
                    refine hK.out _ _ ⟨h.row (i := 3) rfl, h.row (i := 9) rfl, h.row (i := 5) rfl, h.row (i := 6) rfl⟩ (fun hHeld => ?_)
                    clear hK K
                    refine wpAnyH_done (by kernel_rfl) ?_ _
                    refine NoPanic.normal ?_
                    go_wp2
                    go_meet
                    case rel => exact ⟨_, rfl, h⟩
                  · refine wp_alloc_R 24 rfl (ec 0) z4w ?_
                    obtain ⟨g14, hgq, hq⟩ := h.more 12 24 (ec 0)
                    replace h : Fr w _ [(w.heap.size, 56, fc A B M), ((w.heap.size + 1), 56, fc D E N), ((w.heap.size + 1 + 1), 56, fc 0 0 0), (g5, 24, ec n1), (g6, 24, ec n2), (g7, 24, ec n3), (g8, 24, ec n4), (g9, 24, ec n6), (g10, 24, ec n7), (g11, 24, ec n8), (g12, 24, ec n11), (g13, 24, ec n13), (g14, 24, ec 0)] := hq
                    rw [hgq]
                    clear hgq hq
                    refine hK.out _ _ ⟨h.row (i := 3) rfl, h.row (i := 9) rfl, h.row (i := 5) rfl, h.row (i := 6) rfl⟩ (fun hHeld => ?_)
                    clear hK K
                    refine allReadyH_oneL (i := 6) (by kernel_rfl) rfl (by rfl) (fun K hK => ?_)
                    go_simp
                    refine (cn16 _).mono ?_
                    rintro _ wn ⟨rfl, hb⟩
                    replace h := h.below hb
                    clear hb
                    refine hK.out _ _ ⟨h.row (i := 3) rfl, h.row (i := 9) rfl, h.row (i := 5) rfl, h.row (i := 6) rfl⟩ (fun hHeld => ?_)
                    clear hK K
                    refine allReadyH_oneL (i := 8) (by kernel_rfl) rfl (by rfl) (fun K hK => ?_)
                    refine wp_store_R 24 _ _ rfl _ (ec n16) rfl rfl (h.row (i := 12) rfl) (ie4 _) rfl (ec_all _) ?_
                    intro wz q hg hz
                    replace h : Fr w wz [(w.heap.size, 56, fc A B M), ((w.heap.size + 1), 56, fc D E N), ((w.heap.size + 1 + 1), 56, fc 0 0 0), (g5, 24, ec n1), (g6, 24, ec n2), (g7, 24, ec n3), (g8, 24, ec n4), (g9, 24, ec n6), (g10, 24, ec n7), (g11, 24, ec n8), (g12, 24, ec n11), (g13, 24, ec n13), (g14, 24, ec n16)] := h.put (i := 12) rfl q hg
                    clear q hg hz
                    refine hK.out _ _ ⟨h.row (i := 3) rfl, h.row (i := 9) rfl, h.row (i := 5) rfl, h.row (i := 6) rfl⟩ (fun hHeld => ?_)
                    clear hK K
                    refine wpAnyH_done (by kernel_rfl) ?_ _
                    refine NoPanic.normal ?_
                    go_wp2
                    go_meet
                    case rel => exact ⟨_, rfl, h⟩
                · refine wp_alloc_R 24 rfl (ec 0) z4w ?_
                  obtain ⟨g14, hgq, hq⟩ := h.more 12 24 (ec 0)
                  replace h : Fr w _ [(w.heap.size, 56, fc A B M), ((w.heap.size + 1), 56, fc D E N), ((w.heap.size + 1 + 1), 56, fc 0 0 0), (g5, 24, ec n1), (g6, 24, ec n2), (g7, 24, ec n3), (g8, 24, ec n4), (g9, 24, ec n6), (g10, 24, ec n7), (g11, 24, ec n8), (g12, 24, ec n11), (g13, 24, ec n13), (g14, 24, ec 0)] := hq
                  rw [hgq]
                  clear hgq hq
                  refine hK.out _ _ ⟨h.row (i := 3) rfl, h.row (i := 9) rfl, h.row (i := 5) rfl, h.row (i := 6) rfl⟩ (fun hHeld => ?_)
                  clear hK K
                  refine allReadyH_oneL (i := 5) (by kernel_rfl) rfl (by rfl) (fun K hK => ?_)
                  go_simp
                  refine (cn15 _).mono ?_
                  rintro _ wn ⟨rfl, hb⟩
                  replace h := h.below hb
                  clear hb
                  refine hK.out _ _ ⟨h.row (i := 3) rfl, h.row (i := 9) rfl, h.row (i := 5) rfl, h.row (i := 6) rfl⟩ (fun hHeld => ?_)
                  clear hK K
                  refine allReadyH_oneL (i := 6) (by kernel_rfl) rfl (by rfl) (fun K hK => ?_)
                  go_simp
                  refine (cn16 _).mono ?_
                  rintro _ wn ⟨rfl, hb⟩
                  replace h := h.below hb
                  clear hb
                  refine hK.out _ _ ⟨h.row (i := 3) rfl, h.row (i := 9) rfl, h.row (i := 5) rfl, h.row (i := 6) rfl⟩ (fun hHeld => ?_)
                  clear hK K
                  refine allReadyH_oneL (i := 8) (by kernel_rfl) rfl (by rfl) (fun K hK => ?_)
                  refine wp_store_R 24 _ _ rfl _ (ec n16) rfl rfl (h.row (i := 12) rfl) (ie4 _) rfl (ec_all _) ?_
                  intro wz q hg hz
                  replace h : Fr w wz [(w.heap.size, 56, fc A B M), ((w.heap.size + 1), 56, fc D E N), ((w.heap.size + 1 + 1), 56, fc 0 0 0), (g5, 24, ec n1), (g6, 24, ec n2), (g7, 24, ec n3), (g8, 24, ec n4), (g9, 24, ec n6), (g10, 24, ec n7), (g11, 24, ec n8), (g12, 24, ec n11), (g13, 24, ec n13), (g14, 24, ec n16)] := h.put (i := 12) rfl q hg
                  clear q hg hz
                  refine hK.out _ _ ⟨h.row (i := 3) rfl, h.row (i := 9) rfl, h.row (i := 5) rfl, h.row (i := 6) rfl⟩ (fun hHeld => ?_)
                  clear hK K
                  refine wpAnyH_done (by kernel_rfl) ?_ _
                  refine NoPanic.normal ?_
                  go_wp2
                  go_meet
                  case rel => exact ⟨_, rfl, h⟩
              · refine wp_alloc_R 24 rfl (ec 0) z4w ?_
                obtain ⟨g14, hgq, hq⟩ := h.more 12 24 (ec 0)
                replace h : Fr w _ [(w.heap.size, 56, fc A B M), ((w.heap.size + 1), 56, fc D E N), ((w.heap.size + 1 + 1), 56, fc 0 0 0), (g5, 24, ec n1), (g6, 24, ec n2), (g7, 24, ec n3), (g8, 24, ec n4), (g9, 24, ec n6), (g10, 24, ec n7), (g11, 24, ec n8), (g12, 24, ec n11), (g13, 24, ec n13), (g14, 24, ec 0)] := hq
                rw [hgq]
                clear hgq hq
                refine hK.out _ _ ⟨h.row (i := 3) rfl, h.row (i := 9) rfl, h.row (i := 5) rfl, h.row (i := 6) rfl⟩ (fun hHeld => ?_)
                clear hK K
                refine allReadyH_oneL (i := 4) (by kernel_rfl) rfl (by rfl) (fun K hK => ?_)
                go_simp
                refine (cn14 _).mono ?_
                rintro _ wn ⟨rfl, hb⟩
                replace h := h.below hb
                clear hb
                refine hK.out _ _ ⟨h.row (i := 3) rfl, h.row (i := 9) rfl, h.row (i := 5) rfl, h.row (i := 6) rfl⟩ (fun hHeld => ?_)
                clear hK K
                refine allReadyH_oneL (i := 5) (by kernel_rfl) rfl (by rfl) (fun K hK => ?_)
                go_simp
                refine (cn15 _).mono ?_
                rintro _ wn ⟨rfl, hb⟩
                replace h := h.below hb
                clear hb
                refine hK.out _ _ ⟨h.row (i := 3) rfl, h.row (i := 9) rfl, h.row (i := 5) rfl, h.row (i := 6) rfl⟩ (fun hHeld => ?_)
                clear hK K
                refine allReadyH_oneL (i := 6) (by kernel_rfl) rfl (by rfl) (fun K hK => ?_)
                go_simp
                refine (cn16 _).mono ?_
                rintro _ wn ⟨rfl, hb⟩
                replace h := h.below hb
                clear hb
                refine hK.out _ _ ⟨h.row (i := 3) rfl, h.row (i := 9) rfl, h.row (i := 5) rfl, h.row (i := 6) rfl⟩ (fun hHeld => ?_)
                clear hK K
                refine allReadyH_oneL (i := 8) (by kernel_rfl) rfl (by rfl) (fun K hK => ?_)
                refine wp_store_R 24 _ _ rfl _ (ec n16) rfl rfl (h.row (i := 12) rfl) (ie4 _) rfl (ec_all _) ?_
                intro wz q hg hz
                replace h : Fr w wz [(w.heap.size, 56, fc A B M), ((w.heap.size + 1), 56, fc D E N), ((w.heap.size + 1 + 1), 56, fc 0 0 0), (g5, 24, ec n1), (g6, 24, ec n2), (g7, 24, ec n3), (g8, 24, ec n4), (g9, 24, ec n6), (g10, 24, ec n7), (g11, 24, ec n8), (g12, 24, ec n11), (g13, 24, ec n13), (g14, 24, ec n16)] := h.put (i := 12) rfl q hg
                clear q hg hz
                refine hK.out _ _ ⟨h.row (i := 3) rfl, h.row (i := 9) rfl, h.row (i := 5) rfl, h.row (i := 6) rfl⟩ (fun hHeld => ?_)
                clear hK K
                refine wpAnyH_done (by kernel_rfl) ?_ _
                refine NoPanic.normal ?_
                go_wp2
                go_meet
                case rel => exact ⟨_, rfl, h⟩
            case rest =>
              clear h
              obtain ⟨g14, rfl, h⟩ := hcut
              go_upto_region 9 with fail
              try simp only [Act.put, List.setIfInBounds_toArray, List.set_cons_zero, List.set_cons_succ]
              replace h := h.drew
              refine wp_region_noPanic ?_
              refine wp_region_held_drew (S := fun w' => Row w' g13 24 (ec n13) ∧ Row w' g14 24 (ec n16) ∧ Row w' g10 24 (ec n7) ∧ Row w' g11 24 (ec n8)) (by kernel_rfl) ⟨h.row (i := 11) rfl, h.row (i := 12) rfl, h.row (i := 8) rfl, h.row (i := 9) rfl⟩ (fun hHeld => ?_)
              refine wpAnyH_takeL (i := 0) (v := (.agg (ec n13).toArray)) rfl (by kernel_rfl) (by kernel_rfl) (by kernel_rfl) (fun _ _ _ h => h) (by rfl) ?ht30 (by assumption) ?_
              case ht30 => intro w hSw; exact exec_load_W 24 _ rfl rfl hSw.1 Tryd.underlying24 rfl (ie4 _)
              simp only [Act.put, List.setIfInBounds_toArray, List.set_cons_zero, List.set_cons_succ]
              refine wpAnyH_takeL (i := 1) (v := (.agg (ec n16).toArray)) rfl (by kernel_rfl) (by kernel_rfl) (by kernel_rfl) (fun _ _ _ h => h) (by rfl) ?ht31 (by assumption) ?_
              case ht31 => intro w hSw; exact exec_load_W 24 _ rfl rfl hSw.2.1 Tryd.underlying24 rfl (ie4 _)
              simp only [Act.put, List.setIfInBounds_toArray, List.set_cons_zero, List.set_cons_succ]
              refine wpAnyH_takeL (i := 2) (v := (.agg (ec n7).toArray)) rfl (by kernel_rfl) (by kernel_rfl) (by kernel_rfl) (fun _ _ _ h => h) (by rfl) ?ht32 (by assumption) ?_
              case ht32 => intro w hSw; exact exec_load_W 24 _ rfl rfl hSw.2.2.1 Tryd.underlying24 rfl (ie4 _)
              simp only [Act.put, List.setIfInBounds_toArray, List.set_cons_zero, List.set_cons_succ]
              refine wpAnyH_takeL (i := 3) (v := (.agg (ec n8).toArray)) rfl (by kernel_rfl) (by kernel_rfl) (by kernel_rfl) (fun _ _ _ h => h) (by rfl) ?ht33 (by assumption) ?_
              case ht33 => intro w hSw; exact exec_load_W 24 _ rfl rfl hSw.2.2.2 Tryd.underlying24 rfl (ie4 _)
              simp only [Act.put, List.setIfInBounds_toArray, List.set_cons_zero, List.set_cons_succ]
              refine allReadyH_oneL (i := 4) (by kernel_rfl) rfl (by rfl) (fun K hK => ?_)
              go_simp
              refine (cn17 _).mono ?_
              rintro _ wn ⟨rfl, hb⟩
              replace h := h.below hb
              clear hb
              refine hK.out _ _ ⟨h.row (i := 11) rfl, h.row (i := 12) rfl, h.row (i := 8) rfl, h.row (i := 9) rfl⟩ (fun hHeld => ?_)
              clear hK K
              refine wpAnyH_takeL (i := 5) (v := (.agg (fc n13 n16 n17).toArray)) rfl (by kernel_rfl) (by kernel_rfl) (by kernel_rfl) (fun _ _ _ h => h) (by rfl) ?ht34 (by assumption) ?_
              case ht34 => intro w hSw; exact exec_build_C 56 _ rfl (fc n13 n16 n17) (by kernel_rfl)
              simp only [Act.put, List.setIfInBounds_toArray, List.set_cons_zero, List.set_cons_succ]
              refine allReadyH_oneL (i := 6) (by kernel_rfl) rfl (by rfl) (fun K hK => ?_)
              refine wp_store_R 56 _ _ rfl _ (fc n13 n16 n17) rfl rfl (h.row (i := 2) rfl) (iF _ _ _) rfl (fc_all _ _ _) ?_
              intro wz q hg hz
              replace h : Fr w wz [(w.heap.size, 56, fc A B M), ((w.heap.size + 1), 56, fc D E N), ((w.heap.size + 1 + 1), 56, fc n13 n16 n17), (g5, 24, ec n1), (g6, 24, ec n2), (g7, 24, ec n3), (g8, 24, ec n4), (g9, 24, ec n6), (g10, 24, ec n7), (g11, 24, ec n8), (g12, 24, ec n11), (g13, 24, ec n13), (g14, 24, ec n16)] := h.put (i := 2) rfl q hg
              clear q hg hz
              refine hK.out _ _ ⟨h.row (i := 11) rfl, h.row (i := 12) rfl, h.row (i := 8) rfl, h.row (i := 9) rfl⟩ (fun hHeld => ?_)
              clear hK K
              refine wpAnyH_done (by kernel_rfl) ?_ _
              refine NoPanic.normal ?_
              go_wp2
              exact result_row Tryd.results51 rfl (h.row (i := 2) rfl) Tryd.underlying56 rfl (iF _ _ _) rfl ⟨⟨_, _, _, rfl, ln13, ln16, ln17, HV.out⟩, h.bel⟩
end Go.Proofs.YthjlbcbkllaicaaDoor.F
