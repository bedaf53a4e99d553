/-
  The document's Add; over this seat's translation. Conditions: each as it says.
-/
import Derived.Test.YthjlbcbkllaicaaDoorE13a
namespace Go.Proofs.YthjlbcbkllaicaaDoor.F
open Go.RowKit
set_option linter.unusedVariables false
set_option maxRecDepth 10000

open E (z z_val z_same z_add z_mul z_sub z_inv z_mod z_of dd Pt padd pneg pmul iv ax ay)
theorem ax_form (x1 y1 x2 y2 : E.Z) : ax x1 y1 x2 y2 = (x1 * y2 + x2 * y1) * iv (1 + dd * (x1 * x2 * (y1 * y2))) := by
  unfold ax
  congr 2
  generalize dd = d
  generalize x1 = a, x2 = b, y1 = c, y2 = e
  revert a b c d e
  exact fun a b c d e => by grind
theorem ay_form (x1 y1 x2 y2 : E.Z) : ay x1 y1 x2 y2 = (y1 * y2 + x1 * x2) * iv (1 - dd * (x1 * x2 * (y1 * y2))) := by
  unfold ay
  congr 2
  generalize dd = d
  grind
set_option maxHeartbeats 8000000 in
theorem add13_any (A B M N : Nat) (lA : A < 115792089237316195423570985008687907853269984665640564039457584007913129639936) (lB : B < 115792089237316195423570985008687907853269984665640564039457584007913129639936) (lM : M < 115792089237316195423570985008687907853269984665640564039457584007913129639936) (lN : N < 115792089237316195423570985008687907853269984665640564039457584007913129639936) (w : World) : Calls Tryd.prog 23 #[.agg (pc A B).toArray, .agg (pc M N).toArray] w fun e w' => e = .returned (.agg (pv (padd (ownP A B) (ownP M N))).toArray) ∧ Below w.heap.size w w' := by
  obtain ⟨w2, h2, h⟩ := Fr.three w 26 26 26 (pc A B) (pc M N) (pc 0 0)
  obtain ⟨X, Y, eX, eY, lX, lY, zX, zY, co⟩ := own13_let A B lA lB
  obtain ⟨U, V, eU, eV, lU, lV, zU, zV, cu⟩ := own13_let M N lM lN
  obtain ⟨n1, en1, ln1, cn1⟩ : ∃ n, X * U % P = n ∧ n < 115792089237316195423570985008687907853269984665640564039457584007913129639936 ∧ ∀ (w : World), Calls Tryd.prog 37 #[.agg (ec X).toArray, .agg (ec U).toArray] w fun e w' => e = .returned (.agg (ec n).toArray) ∧ Below w.heap.size w w' := ⟨_, rfl, mod_lt_T _, fun w => frefmul_el X U lX lU w⟩
  replace en1 := Away.mk en1
  obtain ⟨n2, en2, ln2, cn2⟩ : ∃ n, Y * V % P = n ∧ n < 115792089237316195423570985008687907853269984665640564039457584007913129639936 ∧ ∀ (w : World), Calls Tryd.prog 37 #[.agg (ec Y).toArray, .agg (ec V).toArray] w fun e w' => e = .returned (.agg (ec n).toArray) ∧ Below w.heap.size w w' := ⟨_, rfl, mod_lt_T _, fun w => frefmul_el Y V lY lV w⟩
  replace en2 := Away.mk en2
  obtain ⟨n3, en3, ln3, cn3⟩ : ∃ n, n1 * n2 % P = n ∧ n < 115792089237316195423570985008687907853269984665640564039457584007913129639936 ∧ ∀ (w : World), Calls Tryd.prog 37 #[.agg (ec n1).toArray, .agg (ec n2).toArray] w fun e w' => e = .returned (.agg (ec n).toArray) ∧ Below w.heap.size w w' := ⟨_, rfl, mod_lt_T _, fun w => frefmul_el n1 n2 ln1 ln2 w⟩
  replace en3 := Away.mk en3
  obtain ⟨n4, en4, ln4, cn4⟩ : ∃ n, Dn * n3 % P = n ∧ n < 115792089237316195423570985008687907853269984665640564039457584007913129639936 ∧ ∀ (w : World), Calls Tryd.prog 37 #[.agg (ec Dn).toArray, .agg (ec n3).toArray] w fun e w' => e = .returned (.agg (ec n).toArray) ∧ Below w.heap.size w w' := ⟨_, rfl, mod_lt_T _, fun w => frefmul_el Dn n3 lDn ln3 w⟩
  replace en4 := Away.mk en4
  obtain ⟨n5, en5, ln5, cn5⟩ : ∃ n, X * V % P = n ∧ n < 115792089237316195423570985008687907853269984665640564039457584007913129639936 ∧ ∀ (w : World), Calls Tryd.prog 37 #[.agg (ec X).toArray, .agg (ec V).toArray] w fun e w' => e = .returned (.agg (ec n).toArray) ∧ Below w.heap.size w w' := ⟨_, rfl, mod_lt_T _, fun w => frefmul_el X V lX lV w⟩
  replace en5 := Away.mk en5
  obtain ⟨n6, en6, ln6, cn6⟩ : ∃ n, U * Y % P = n ∧ n < 115792089237316195423570985008687907853269984665640564039457584007913129639936 ∧ ∀ (w : World), Calls Tryd.prog 37 #[.agg (ec U).toArray, .agg (ec Y).toArray] w fun e w' => e = .returned (.agg (ec n).toArray) ∧ Below w.heap.size w w' := ⟨_, rfl, mod_lt_T _, fun w => frefmul_el U Y lU lY w⟩
  replace en6 := Away.mk en6
  obtain ⟨n7, en7, ln7, cn7⟩ : ∃ n, (n5 + n6) % P = n ∧ n < 115792089237316195423570985008687907853269984665640564039457584007913129639936 ∧ ∀ (w : World), Calls Tryd.prog 38 #[.agg (ec n5).toArray, .agg (ec n6).toArray] w fun e w' => e = .returned (.agg (ec n).toArray) ∧ Below w.heap.size w w' := ⟨_, rfl, mod_lt_T _, fun w => frefadd_el n5 n6 ln5 ln6 w⟩
  replace en7 := Away.mk en7
  obtain ⟨n8, en8, ln8, cn8⟩ : ∃ n, (n2 + n1) % P = n ∧ n < 115792089237316195423570985008687907853269984665640564039457584007913129639936 ∧ ∀ (w : World), Calls Tryd.prog 38 #[.agg (ec n2).toArray, .agg (ec n1).toArray] w fun e w' => e = .returned (.agg (ec n).toArray) ∧ Below w.heap.size w w' := ⟨_, rfl, mod_lt_T _, fun w => frefadd_el n2 n1 ln2 ln1 w⟩
  replace en8 := Away.mk en8
  obtain ⟨n9, en9, ln9, cn9⟩ : ∃ n, (1 + n4) % P = n ∧ n < 115792089237316195423570985008687907853269984665640564039457584007913129639936 ∧ ∀ (w : World), Calls Tryd.prog 38 #[.agg (ec 1).toArray, .agg (ec n4).toArray] w fun e w' => e = .returned (.agg (ec n).toArray) ∧ Below w.heap.size w w' := ⟨_, rfl, mod_lt_T _, fun w => frefadd_el 1 n4 (by decide) ln4 w⟩
  replace en9 := Away.mk en9
  obtain ⟨n10, en10, ln10, cn10⟩ : ∃ n, n9 ^ (P - 2) % P = n ∧ n < 115792089237316195423570985008687907853269984665640564039457584007913129639936 ∧ ∀ (w : World), Calls Tryd.prog 47 #[.agg (ec n9).toArray] w fun e w' => e = .returned (.agg (ec n).toArray) ∧ Below w.heap.size w w' := ⟨_, rfl, mod_lt_T _, fun w => frefinv_el n9 ln9 w⟩
  replace en10 := Away.mk en10
  obtain ⟨n11, en11, ln11, cn11⟩ : ∃ n, (1 % P + (P - n4 % P)) % P = n ∧ n < 115792089237316195423570985008687907853269984665640564039457584007913129639936 ∧ ∀ (w : World), Calls Tryd.prog 40 #[.agg (ec 1).toArray, .agg (ec n4).toArray] w fun e w' => e = .returned (.agg (ec n).toArray) ∧ Below w.heap.size w w' := ⟨_, rfl, mod_lt_T _, fun w => frefsub_el 1 n4 (by decide) ln4 w⟩
  replace en11 := Away.mk en11
  obtain ⟨n12, en12, ln12, cn12⟩ : ∃ n, n11 ^ (P - 2) % P = n ∧ n < 115792089237316195423570985008687907853269984665640564039457584007913129639936 ∧ ∀ (w : World), Calls Tryd.prog 47 #[.agg (ec n11).toArray] w fun e w' => e = .returned (.agg (ec n).toArray) ∧ Below w.heap.size w w' := ⟨_, rfl, mod_lt_T _, fun w => frefinv_el n11 ln11 w⟩
  replace en12 := Away.mk en12
  obtain ⟨n13, en13, ln13, cn13⟩ : ∃ n, n7 * n10 % P = n ∧ n < 115792089237316195423570985008687907853269984665640564039457584007913129639936 ∧ ∀ (w : World), Calls Tryd.prog 37 #[.agg (ec n7).toArray, .agg (ec n10).toArray] w fun e w' => e = .returned (.agg (ec n).toArray) ∧ Below w.heap.size w w' := ⟨_, rfl, mod_lt_T _, fun w => frefmul_el n7 n10 ln7 ln10 w⟩
  replace en13 := Away.mk en13
  obtain ⟨n14, en14, ln14, cn14⟩ : ∃ n, n8 * n12 % P = n ∧ n < 115792089237316195423570985008687907853269984665640564039457584007913129639936 ∧ ∀ (w : World), Calls Tryd.prog 37 #[.agg (ec n8).toArray, .agg (ec n12).toArray] w fun e w' => e = .returned (.agg (ec n).toArray) ∧ Below w.heap.size w w' := ⟨_, rfl, mod_lt_T _, fun w => frefmul_el n8 n12 ln8 ln12 w⟩
  replace en14 := Away.mk en14
  have HV : Away (pv (padd (ownP A B) (ownP M N)) = pc n13 n14) := ⟨by
    have ex : (padd (ownP A B) (ownP M N)).x = z n13 := by
      rw [← en13.out, z_mul, ← en10.out, z_inv, ← en9.out, z_add, ← en4.out, z_mul, ← en3.out, z_mul, ← en1.out, z_mul, ← en2.out, z_mul, ← en7.out, z_add, ← en5.out, z_mul, ← en6.out, z_mul, zX, zY, zU, zV, z_D, show z 1 = 1 from rfl]
      exact ax_form _ _ _ _
    have ey : (padd (ownP A B) (ownP M N)).y = z n14 := by
      rw [← en14.out, z_mul, ← en12.out, z_inv, ← en11.out, z_sub, ← en4.out, z_mul, ← en3.out, z_mul, ← en8.out, z_add, ← en1.out, z_mul, ← en2.out, z_mul, zX, zY, zU, zV, z_D, show z 1 = 1 from rfl]
      exact ay_form _ _ _ _
    unfold pv
    rw [ex, ey, z_valz (by rw [← en13.out]; exact mod_lt_P _), z_valz (by rw [← en14.out]; exact mod_lt_P _)]⟩
  clear eX eY eU eV zX zY zU zV
  go_enter Tryd.func23, Tryd.ntmps23
  go_upto_region 1 with (refine wpList_alloc_row rfl 26 rfl _ zPw ?_)
  try simp only [Act.put, List.setIfInBounds_toArray, List.set_cons_zero, List.set_cons_succ, alloc_size, h2]
  clear h2
  go_wp2_with (first | refine wpList_load_row rfl 26 _ rfl _ rfl _ _ _ _ (h.row (i := 0) rfl) Tryd.underlying26 rfl (iP _ _) ?_)
  refine (co _).mono ?_
  rintro _ wn ⟨rfl, hb⟩
  replace h := h.below hb
  clear hb
  go_upto_region 2 with (first | (refine wpList_store_R rfl 26 _ _ rfl _ (pc X Y) rfl rfl (h.row (i := 0) rfl) (iP _ _) rfl (pc_all _ _) ?_; intro wz q hg hz))
  replace h : Fr w wz [(w.heap.size, 26, pc X Y), ((w.heap.size + 1), 26, pc M N), ((w.heap.size + 1 + 1), 26, pc 0 0)] := h.put (i := 0) rfl q hg
  clear q hg hz
  go_wp2_with (first | refine wpList_load_row rfl 26 _ rfl _ rfl _ _ _ _ (h.row (i := 1) rfl) Tryd.underlying26 rfl (iP _ _) ?_)
  refine (cu _).mono ?_
  rintro _ wn ⟨rfl, hb⟩
  replace h := h.below hb
  clear hb
  go_upto_region 3 with (first | (refine wpList_store_R rfl 26 _ _ rfl _ (pc U V) rfl rfl (h.row (i := 1) rfl) (iP _ _) rfl (pc_all _ _) ?_; intro wz q hg hz))
  replace h : Fr w wz [(w.heap.size, 26, pc X Y), ((w.heap.size + 1), 26, pc U V), ((w.heap.size + 1 + 1), 26, pc 0 0)] := h.put (i := 1) rfl q hg
  clear q hg hz
  try simp only [Act.put]
  replace h := h.drew
  go_cut [5] (fun v5 wc => ∃ g5, v5 = .pointer (some ⟨g5, 0, none⟩) ∧ Fr w wc [(w.heap.size, 26, pc X Y), ((w.heap.size + 1), 26, pc U V), ((w.heap.size + 1 + 1), 26, pc 0 0), (g5, 24, ec n4)])
  case first =>
    refine wp_region_noPanic ?_
    refine wp_region_held_drew (S := fun w' => Row w' w.heap.size 26 (pc X Y) ∧ Row w' (w.heap.size + 1) 26 (pc U V)) (by kernel_rfl) ⟨h.row (i := 0) rfl, h.row (i := 1) rfl⟩ (fun hHeld => ?_)
    refine wpAnyH_takeL (i := 1) (v := ?vt1) rfl (by kernel_rfl) (by kernel_rfl) (by kernel_rfl) (fun _ _ _ h => h) (by rfl) ?ht1 (by assumption) ?_
    case ht1 => intro w hSw; go_simp <;> with_reducible rfl
    simp only [Act.put, List.setIfInBounds_toArray, List.set_cons_zero, List.set_cons_succ]
    refine wpAnyH_takeL (i := 2) (v := (.agg (ec X).toArray)) rfl (by kernel_rfl) (by kernel_rfl) (by kernel_rfl) (fun _ _ _ h => h) (by rfl) ?ht2 (by assumption) ?_
    case ht2 => intro w hSw; exact exec_load_at 24 _ rfl rfl (pc_x hSw.1) rfl Tryd.underlying24 (ie4 _)
    simp only [Act.put, List.setIfInBounds_toArray, List.set_cons_zero, List.set_cons_succ]
    refine wpAnyH_takeL (i := 3) (v := ?vt3) rfl (by kernel_rfl) (by kernel_rfl) (by kernel_rfl) (fun _ _ _ h => h) (by rfl) ?ht3 (by assumption) ?_
    case ht3 => intro w hSw; go_simp <;> with_reducible rfl
    simp only [Act.put, List.setIfInBounds_toArray, List.set_cons_zero, List.set_cons_succ]
    refine wpAnyH_takeL (i := 4) (v := (.agg (ec U).toArray)) rfl (by kernel_rfl) (by kernel_rfl) (by kernel_rfl) (fun _ _ _ h => h) (by rfl) ?ht4 (by assumption) ?_
    case ht4 => intro w hSw; exact exec_load_at 24 _ rfl rfl (pc_x hSw.2) rfl Tryd.underlying24 (ie4 _)
    simp only [Act.put, List.setIfInBounds_toArray, List.set_cons_zero, List.set_cons_succ]
    refine wpAnyH_takeL (i := 6) (v := ?vt5) rfl (by kernel_rfl) (by kernel_rfl) (by kernel_rfl) (fun _ _ _ h => h) (by rfl) ?ht5 (by assumption) ?_
    case ht5 => intro w hSw; go_simp <;> with_reducible rfl
    simp only [Act.put, List.setIfInBounds_toArray, List.set_cons_zero, List.set_cons_succ]
    refine wpAnyH_takeL (i := 7) (v := (.agg (ec Y).toArray)) rfl (by kernel_rfl) (by kernel_rfl) (by kernel_rfl) (fun _ _ _ h => h) (by rfl) ?ht6 (by assumption) ?_
    case ht6 => intro w hSw; exact exec_load_at 24 _ rfl rfl (pc_y hSw.1) rfl Tryd.underlying24 (ie4 _)
    simp only [Act.put, List.setIfInBounds_toArray, List.set_cons_zero, List.set_cons_succ]
    refine wpAnyH_takeL (i := 8) (v := ?vt7) rfl (by kernel_rfl) (by kernel_rfl) (by kernel_rfl) (fun _ _ _ h => h) (by rfl) ?ht7 (by assumption) ?_
    case ht7 => intro w hSw; go_simp <;> with_reducible rfl
    simp only [Act.put, List.setIfInBounds_toArray, List.set_cons_zero, List.set_cons_succ]
    refine wpAnyH_takeL (i := 9) (v := (.agg (ec V).toArray)) rfl (by kernel_rfl) (by kernel_rfl) (by kernel_rfl) (fun _ _ _ h => h) (by rfl) ?ht8 (by assumption) ?_
    case ht8 => intro w hSw; exact exec_load_at 24 _ rfl rfl (pc_y hSw.2) rfl Tryd.underlying24 (ie4 _)
    simp only [Act.put, List.setIfInBounds_toArray, List.set_cons_zero, List.set_cons_succ]
    refine ready_twoL (i := 0) (j := 13) (by kernel_rfl) rfl rfl (by rfl) (by rfl) (fun K hK => ?_) (fun K hK => ?_)
    · go_simp
      refine (d13_any _).mono ?_
      rintro _ wn ⟨rfl, hb⟩
      replace h := h.below hb
      clear hb
      refine hK.out _ _ ⟨h.row (i := 0) rfl, h.row (i := 1) rfl⟩ (fun hHeld => ?_)
      clear hK K
      refine ready_twoL (i := 5) (j := 13) (by kernel_rfl) rfl rfl (by rfl) (by rfl) (fun K hK => ?_) (fun K hK => ?_)
      · go_simp
        refine (cn1 _).mono ?_
        rintro _ wn ⟨rfl, hb⟩
        replace h := h.below hb
        clear hb
        refine hK.out _ _ ⟨h.row (i := 0) rfl, h.row (i := 1) rfl⟩ (fun hHeld => ?_)
        clear hK K
        refine ready_twoL (i := 10) (j := 13) (by kernel_rfl) rfl rfl (by rfl) (by rfl) (fun K hK => ?_) (fun K hK => ?_)
        · go_simp
          refine (cn2 _).mono ?_
          rintro _ wn ⟨rfl, hb⟩
          replace h := h.below hb
          clear hb
          refine hK.out _ _ ⟨h.row (i := 0) rfl, h.row (i := 1) rfl⟩ (fun hHeld => ?_)
          clear hK K
          refine ready_twoL (i := 11) (j := 13) (by kernel_rfl) rfl rfl (by rfl) (by rfl) (fun K hK => ?_) (fun K hK => ?_)
          · go_simp
            refine (cn3 _).mono ?_
            rintro _ wn ⟨rfl, hb⟩
            replace h := h.below hb
            clear hb
            refine hK.out _ _ ⟨h.row (i := 0) rfl, h.row (i := 1) rfl⟩ (fun hHeld => ?_)
            clear hK K
            refine ready_twoL (i := 12) (j := 13) (by kernel_rfl) rfl rfl (by rfl) (by rfl) (fun K hK => ?_) (fun K hK => ?_)
            · go_simp
              refine (cn4 _).mono ?_
              rintro _ wn ⟨rfl, hb⟩
              replace h := h.below hb
              clear hb
              refine hK.out _ _ ⟨h.row (i := 0) rfl, h.row (i := 1) rfl⟩ (fun hHeld => ?_)
              clear hK K
              refine allReadyH_oneL (i := 13) (by kernel_rfl) rfl (by rfl) (fun K hK => ?_)
              refine wp_alloc_R 24 rfl (ec 0) z4w ?_
              obtain ⟨g5, hgq, hq⟩ := h.more 3 24 (ec 0)
              replace h : Fr w _ [(w.heap.size, 26, pc X Y), ((w.heap.size + 1), 26, pc U V), ((w.heap.size + 1 + 1), 26, pc 0 0), (g5, 24, ec 0)] := hq
              rw [hgq]
              clear hgq hq
              refine hK.out _ _ ⟨h.row (i := 0) rfl, h.row (i := 1) rfl⟩ (fun hHeld => ?_)
              clear hK K
              refine allReadyH_oneL (i := 14) (by kernel_rfl) rfl (by rfl) (fun K hK => ?_)
              refine wp_store_R 24 _ _ rfl _ (ec n4) rfl rfl (h.row (i := 3) rfl) (ie4 _) rfl (ec_all _) ?_
              intro wz q hg hz
              replace h : Fr w wz [(w.heap.size, 26, pc X Y), ((w.heap.size + 1), 26, pc U V), ((w.heap.size + 1 + 1), 26, pc 0 0), (g5, 24, ec n4)] := h.put (i := 3) rfl q hg
              clear q hg hz
              refine hK.out _ _ ⟨h.row (i := 0) rfl, h.row (i := 1) rfl⟩ (fun hHeld => ?_)
              clear hK K
              refine wpAnyH_done (by kernel_rfl) ?_ _
              refine NoPanic.normal ?_
              go_wp2
              go_meet
              case rel => exact ⟨_, rfl, h⟩
            · refine wp_alloc_R 24 rfl (ec 0) z4w ?_
              obtain ⟨g5, hgq, hq⟩ := h.more 3 24 (ec 0)
              replace h : Fr w _ [(w.heap.size, 26, pc X Y), ((w.heap.size + 1), 26, pc U V), ((w.heap.size + 1 + 1), 26, pc 0 0), (g5, 24, ec 0)] := hq
              rw [hgq]
              clear hgq hq
              refine hK.out _ _ ⟨h.row (i := 0) rfl, h.row (i := 1) rfl⟩ (fun hHeld => ?_)
              clear hK K
              refine allReadyH_oneL (i := 12) (by kernel_rfl) rfl (by rfl) (fun K hK => ?_)
              go_simp
              refine (cn4 _).mono ?_
              rintro _ wn ⟨rfl, hb⟩
              replace h := h.below hb
              clear hb
              refine hK.out _ _ ⟨h.row (i := 0) rfl, h.row (i := 1) rfl⟩ (fun hHeld => ?_)
              clear hK K
              refine allReadyH_oneL (i := 14) (by kernel_rfl) rfl (by rfl) (fun K hK => ?_)
              refine wp_store_R 24 _ _ rfl _ (ec n4) rfl rfl (h.row (i := 3) rfl) (ie4 _) rfl (ec_all _) ?_
              intro wz q hg hz
              replace h : Fr w wz [(w.heap.size, 26, pc X Y), ((w.heap.size + 1), 26, pc U V), ((w.heap.size + 1 + 1), 26, pc 0 0), (g5, 24, ec n4)] := h.put (i := 3) rfl q hg
              clear q hg hz
              refine hK.out _ _ ⟨h.row (i := 0) rfl, h.row (i := 1) rfl⟩ (fun hHeld => ?_)
              clear hK K
              refine wpAnyH_done (by kernel_rfl) ?_ _
              refine NoPanic.normal ?_
              go_wp2
              go_meet
              case rel => exact ⟨_, rfl, h⟩
          · refine wp_alloc_R 24 rfl (ec 0) z4w ?_
            obtain ⟨g5, hgq, hq⟩ := h.more 3 24 (ec 0)
            replace h : Fr w _ [(w.heap.size, 26, pc X Y), ((w.heap.size + 1), 26, pc U V), ((w.heap.size + 1 + 1), 26, pc 0 0), (g5, 24, ec 0)] := hq
            rw [hgq]
            clear hgq hq
            refine hK.out _ _ ⟨h.row (i := 0) rfl, h.row (i := 1) rfl⟩ (fun hHeld => ?_)
            clear hK K
            refine allReadyH_oneL (i := 11) (by kernel_rfl) rfl (by rfl) (fun K hK => ?_)
            go_simp
            refine (cn3 _).mono ?_
            rintro _ wn ⟨rfl, hb⟩
            replace h := h.below hb
            clear hb
            refine hK.out _ _ ⟨h.row (i := 0) rfl, h.row (i := 1) rfl⟩ (fun hHeld => ?_)
            clear hK K
            refine allReadyH_oneL (i := 12) (by kernel_rfl) rfl (by rfl) (fun K hK => ?_)
            go_simp
            refine (cn4 _).mono ?_
            rintro _ wn ⟨rfl, hb⟩
            replace h := h.below hb
            clear hb
            refine hK.out _ _ ⟨h.row (i := 0) rfl, h.row (i := 1) rfl⟩ (fun hHeld => ?_)
            clear hK K
            refine allReadyH_oneL (i := 14) (by kernel_rfl) rfl (by rfl) (fun K hK => ?_)
            refine wp_store_R 24 _ _ rfl _ (ec n4) rfl rfl (h.row (i := 3) rfl) (ie4 _) rfl (ec_all _) ?_
            intro wz q hg hz
            replace h : Fr w wz [(w.heap.size, 26, pc X Y), ((w.heap.size + 1), 26, pc U V), ((w.heap.size + 1 + 1), 26, pc 0 0), (g5, 24, ec n4)] := h.put (i := 3) rfl q hg
            clear q hg hz
            refine hK.out _ _ ⟨h.row (i := 0) rfl, h.row (i := 1) rfl⟩ (fun hHeld => ?_)
            clear hK K
            refine wpAnyH_done (by kernel_rfl) ?_ _
            refine NoPanic.normal ?_
            go_wp2
            go_meet
            case rel => exact ⟨_, rfl, h⟩
        · refine wp_alloc_R 24 rfl (ec 0) z4w ?_
          obtain ⟨g5, hgq, hq⟩ := h.more 3 24 (ec 0)
          replace h : Fr w _ [(w.heap.size, 26, pc X Y), ((w.heap.size + 1), 26, pc U V), ((w.heap.size + 1 + 1), 26, pc 0 0), (g5, 24, ec 0)] := hq
          rw [hgq]
          clear hgq hq
          refine hK.out _ _ ⟨h.row (i := 0) rfl, h.row (i := 1) rfl⟩ (fun hHeld => ?_)
          clear hK K
          refine allReadyH_oneL (i := 10) (by kernel_rfl) rfl (by rfl) (fun K hK => ?_)
          go_simp
          refine (cn2 _).mono ?_
          rintro _ wn ⟨rfl, hb⟩
          replace h := h.below hb
          clear hb
          refine hK.out _ _ ⟨h.row (i := 0) rfl, h.row (i := 1) rfl⟩ (fun hHeld => ?_)
          clear hK K
          refine allReadyH_oneL (i := 11) (by kernel_rfl) rfl (by rfl) (fun K hK => ?_)
          go_simp
          refine (cn3 _).mono ?_
          rintro _ wn ⟨rfl, hb⟩
          replace h := h.below hb
          clear hb
          refine hK.out _ _ ⟨h.row (i := 0) rfl, h.row (i := 1) rfl⟩ (fun hHeld => ?_)
          clear hK K
          refine allReadyH_oneL (i := 12) (by kernel_rfl) rfl (by rfl) (fun K hK => ?_)
          go_simp
          refine (cn4 _).mono ?_
          rintro _ wn ⟨rfl, hb⟩
          replace h := h.below hb
          clear hb
          refine hK.out _ _ ⟨h.row (i := 0) rfl, h.row (i := 1) rfl⟩ (fun hHeld => ?_)
          clear hK K
          refine allReadyH_oneL (i := 14) (by kernel_rfl) rfl (by rfl) (fun K hK => ?_)
          refine wp_store_R 24 _ _ rfl _ (ec n4) rfl rfl (h.row (i := 3) rfl) (ie4 _) rfl (ec_all _) ?_
          intro wz q hg hz
          replace h : Fr w wz [(w.heap.size, 26, pc X Y), ((w.heap.size + 1), 26, pc U V), ((w.heap.size + 1 + 1), 26, pc 0 0), (g5, 24, ec n4)] := h.put (i := 3) rfl q hg
          clear q hg hz
          refine hK.out _ _ ⟨h.row (i := 0) rfl, h.row (i := 1) rfl⟩ (fun hHeld => ?_)
          clear hK K
          refine wpAnyH_done (by kernel_rfl) ?_ _
          refine NoPanic.normal ?_
          go_wp2
          go_meet
          case rel => exact ⟨_, rfl, h⟩
      · refine wp_alloc_R 24 rfl (ec 0) z4w ?_
        obtain ⟨g5, hgq, hq⟩ := h.more 3 24 (ec 0)
        replace h : Fr w _ [(w.heap.size, 26, pc X Y), ((w.heap.size + 1), 26, pc U V), ((w.heap.size + 1 + 1), 26, pc 0 0), (g5, 24, ec 0)] := hq
        rw [hgq]
        clear hgq hq
        refine hK.out _ _ ⟨h.row (i := 0) rfl, h.row (i := 1) rfl⟩ (fun hHeld => ?_)
        clear hK K
        refine allReadyH_oneL (i := 5) (by kernel_rfl) rfl (by rfl) (fun K hK => ?_)
        go_simp
        refine (cn1 _).mono ?_
        rintro _ wn ⟨rfl, hb⟩
        replace h := h.below hb
        clear hb
        refine hK.out _ _ ⟨h.row (i := 0) rfl, h.row (i := 1) rfl⟩ (fun hHeld => ?_)
        clear hK K
        refine allReadyH_oneL (i := 10) (by kernel_rfl) rfl (by rfl) (fun K hK => ?_)
        go_simp
        refine (cn2 _).mono ?_
        rintro _ wn ⟨rfl, hb⟩
        replace h := h.below hb
        clear hb
        refine hK.out _ _ ⟨h.row (i := 0) rfl, h.row (i := 1) rfl⟩ (fun hHeld => ?_)
        clear hK K
        refine allReadyH_oneL (i := 11) (by kernel_rfl) rfl (by rfl) (fun K hK => ?_)
        go_simp
        refine (cn3 _).mono ?_
        rintro _ wn ⟨rfl, hb⟩
        replace h := h.below hb
        clear hb
        refine hK.out _ _ ⟨h.row (i := 0) rfl, h.row (i := 1) rfl⟩ (fun hHeld => ?_)
        clear hK K
        refine allReadyH_oneL (i := 12) (by kernel_rfl) rfl (by rfl) (fun K hK => ?_)
        go_simp
        refine (cn4 _).mono ?_
        rintro _ wn ⟨rfl, hb⟩
        replace h := h.below hb
        clear hb
        refine hK.out _ _ ⟨h.row (i := 0) rfl, h.row (i := 1) rfl⟩ (fun hHeld => ?_)
        clear hK K
        refine allReadyH_oneL (i := 14) (by kernel_rfl) rfl (by rfl) (fun K hK => ?_)
        refine wp_store_R 24 _ _ rfl _ (ec n4) rfl rfl (h.row (i := 3) rfl) (ie4 _) rfl (ec_all _) ?_
        intro wz q hg hz
        replace h : Fr w wz [(w.heap.size, 26, pc X Y), ((w.heap.size + 1), 26, pc U V), ((w.heap.size + 1 + 1), 26, pc 0 0), (g5, 24, ec n4)] := h.put (i := 3) rfl q hg
        clear q hg hz
        refine hK.out _ _ ⟨h.row (i := 0) rfl, h.row (i := 1) rfl⟩ (fun hHeld => ?_)
        clear hK K
        refine wpAnyH_done (by kernel_rfl) ?_ _
        refine NoPanic.normal ?_
        go_wp2
        go_meet
        case rel => exact ⟨_, rfl, h⟩
    · refine wp_alloc_R 24 rfl (ec 0) z4w ?_
      obtain ⟨g5, hgq, hq⟩ := h.more 3 24 (ec 0)
      replace h : Fr w _ [(w.heap.size, 26, pc X Y), ((w.heap.size + 1), 26, pc U V), ((w.heap.size + 1 + 1), 26, pc 0 0), (g5, 24, ec 0)] := hq
      rw [hgq]
      clear hgq hq
      refine hK.out _ _ ⟨h.row (i := 0) rfl, h.row (i := 1) rfl⟩ (fun hHeld => ?_)
      clear hK K
      refine allReadyH_oneL (i := 0) (by kernel_rfl) rfl (by rfl) (fun K hK => ?_)
      go_simp
      refine (d13_any _).mono ?_
      rintro _ wn ⟨rfl, hb⟩
      replace h := h.below hb
      clear hb
      refine hK.out _ _ ⟨h.row (i := 0) rfl, h.row (i := 1) rfl⟩ (fun hHeld => ?_)
      clear hK K
      refine allReadyH_oneL (i := 5) (by kernel_rfl) rfl (by rfl) (fun K hK => ?_)
      go_simp
      refine (cn1 _).mono ?_
      rintro _ wn ⟨rfl, hb⟩
      replace h := h.below hb
      clear hb
      refine hK.out _ _ ⟨h.row (i := 0) rfl, h.row (i := 1) rfl⟩ (fun hHeld => ?_)
      clear hK K
      refine allReadyH_oneL (i := 10) (by kernel_rfl) rfl (by rfl) (fun K hK => ?_)
      go_simp
      refine (cn2 _).mono ?_
      rintro _ wn ⟨rfl, hb⟩
      replace h := h.below hb
      clear hb
      refine hK.out _ _ ⟨h.row (i := 0) rfl, h.row (i := 1) rfl⟩ (fun hHeld => ?_)
      clear hK K
      refine allReadyH_oneL (i := 11) (by kernel_rfl) rfl (by rfl) (fun K hK => ?_)
      go_simp
      refine (cn3 _).mono ?_
      rintro _ wn ⟨rfl, hb⟩
      replace h := h.below hb
      clear hb
      refine hK.out _ _ ⟨h.row (i := 0) rfl, h.row (i := 1) rfl⟩ (fun hHeld => ?_)
      clear hK K
      refine allReadyH_oneL (i := 12) (by kernel_rfl) rfl (by rfl) (fun K hK => ?_)
      go_simp
      refine (cn4 _).mono ?_
      rintro _ wn ⟨rfl, hb⟩
      replace h := h.below hb
      clear hb
      refine hK.out _ _ ⟨h.row (i := 0) rfl, h.row (i := 1) rfl⟩ (fun hHeld => ?_)
      clear hK K
      refine allReadyH_oneL (i := 14) (by kernel_rfl) rfl (by rfl) (fun K hK => ?_)
      refine wp_store_R 24 _ _ rfl _ (ec n4) rfl rfl (h.row (i := 3) rfl) (ie4 _) rfl (ec_all _) ?_
      intro wz q hg hz
      replace h : Fr w wz [(w.heap.size, 26, pc X Y), ((w.heap.size + 1), 26, pc U V), ((w.heap.size + 1 + 1), 26, pc 0 0), (g5, 24, ec n4)] := h.put (i := 3) rfl q hg
      clear q hg hz
      refine hK.out _ _ ⟨h.row (i := 0) rfl, h.row (i := 1) rfl⟩ (fun hHeld => ?_)
      clear hK K
      refine wpAnyH_done (by kernel_rfl) ?_ _
      refine NoPanic.normal ?_
      go_wp2
      go_meet
      case rel => exact ⟨_, rfl, h⟩
  case rest =>
    clear h
    obtain ⟨g5, rfl, h⟩ := hcut
    go_upto_region 4 with fail
    try simp only [Act.put, List.setIfInBounds_toArray, List.set_cons_zero, List.set_cons_succ]
    replace h := h.drew
    go_cut [6] (fun v6 wc => ∃ g6, v6 = .pointer (some ⟨g6, 0, none⟩) ∧ Fr w wc [(w.heap.size, 26, pc X Y), ((w.heap.size + 1), 26, pc U V), ((w.heap.size + 1 + 1), 26, pc 0 0), (g5, 24, ec n4), (g6, 24, ec n7)])
    case first =>
      refine wp_region_noPanic ?_
      refine wp_region_held_drew (S := fun w' => Row w' w.heap.size 26 (pc X Y) ∧ Row w' (w.heap.size + 1) 26 (pc U V)) (by kernel_rfl) ⟨h.row (i := 0) rfl, h.row (i := 1) rfl⟩ (fun hHeld => ?_)
      refine wpAnyH_takeL (i := 0) (v := ?vt9) rfl (by kernel_rfl) (by kernel_rfl) (by kernel_rfl) (fun _ _ _ h => h) (by rfl) ?ht9 (by assumption) ?_
      case ht9 => intro w hSw; go_simp <;> with_reducible rfl
      simp only [Act.put, List.setIfInBounds_toArray, List.set_cons_zero, List.set_cons_succ]
      refine wpAnyH_takeL (i := 1) (v := (.agg (ec X).toArray)) rfl (by kernel_rfl) (by kernel_rfl) (by kernel_rfl) (fun _ _ _ h => h) (by rfl) ?ht10 (by assumption) ?_
      case ht10 => intro w hSw; exact exec_load_at 24 _ rfl rfl (pc_x hSw.1) rfl Tryd.underlying24 (ie4 _)
      simp only [Act.put, List.setIfInBounds_toArray, List.set_cons_zero, List.set_cons_succ]
      refine wpAnyH_takeL (i := 2) (v := ?vt11) rfl (by kernel_rfl) (by kernel_rfl) (by kernel_rfl) (fun _ _ _ h => h) (by rfl) ?ht11 (by assumption) ?_
      case ht11 => intro w hSw; go_simp <;> with_reducible rfl
      simp only [Act.put, List.setIfInBounds_toArray, List.set_cons_zero, List.set_cons_succ]
      refine wpAnyH_takeL (i := 3) (v := (.agg (ec V).toArray)) rfl (by kernel_rfl) (by kernel_rfl) (by kernel_rfl) (fun _ _ _ h => h) (by rfl) ?ht12 (by assumption) ?_
      case ht12 => intro w hSw; exact exec_load_at 24 _ rfl rfl (pc_y hSw.2) rfl Tryd.underlying24 (ie4 _)
      simp only [Act.put, List.setIfInBounds_toArray, List.set_cons_zero, List.set_cons_succ]
      refine wpAnyH_takeL (i := 5) (v := ?vt13) rfl (by kernel_rfl) (by kernel_rfl) (by kernel_rfl) (fun _ _ _ h => h) (by rfl) ?ht13 (by assumption) ?_
      case ht13 => intro w hSw; go_simp <;> with_reducible rfl
      simp only [Act.put, List.setIfInBounds_toArray, List.set_cons_zero, List.set_cons_succ]
      refine wpAnyH_takeL (i := 6) (v := (.agg (ec U).toArray)) rfl (by kernel_rfl) (by kernel_rfl) (by kernel_rfl) (fun _ _ _ h => h) (by rfl) ?ht14 (by assumption) ?_
      case ht14 => intro w hSw; exact exec_load_at 24 _ rfl rfl (pc_x hSw.2) rfl Tryd.underlying24 (ie4 _)
      simp only [Act.put, List.setIfInBounds_toArray, List.set_cons_zero, List.set_cons_succ]
      refine wpAnyH_takeL (i := 7) (v := ?vt15) rfl (by kernel_rfl) (by kernel_rfl) (by kernel_rfl) (fun _ _ _ h => h) (by rfl) ?ht15 (by assumption) ?_
      case ht15 => intro w hSw; go_simp <;> with_reducible rfl
      simp only [Act.put, List.setIfInBounds_toArray, List.set_cons_zero, List.set_cons_succ]
      refine wpAnyH_takeL (i := 8) (v := (.agg (ec Y).toArray)) rfl (by kernel_rfl) (by kernel_rfl) (by kernel_rfl) (fun _ _ _ h => h) (by rfl) ?ht16 (by assumption) ?_
      case ht16 => intro w hSw; exact exec_load_at 24 _ rfl rfl (pc_y hSw.1) rfl Tryd.underlying24 (ie4 _)
      simp only [Act.put, List.setIfInBounds_toArray, List.set_cons_zero, List.set_cons_succ]
      refine ready_twoL (i := 4) (j := 11) (by kernel_rfl) rfl rfl (by rfl) (by rfl) (fun K hK => ?_) (fun K hK => ?_)
      · go_simp
        refine (cn5 _).mono ?_
        rintro _ wn ⟨rfl, hb⟩
        replace h := h.below hb
        clear hb
        refine hK.out _ _ ⟨h.row (i := 0) rfl, h.row (i := 1) rfl⟩ (fun hHeld => ?_)
        clear hK K
        refine ready_twoL (i := 9) (j := 11) (by kernel_rfl) rfl rfl (by rfl) (by rfl) (fun K hK => ?_) (fun K hK => ?_)
        · go_simp
          refine (cn6 _).mono ?_
          rintro _ wn ⟨rfl, hb⟩
          replace h := h.below hb
          clear hb
          refine hK.out _ _ ⟨h.row (i := 0) rfl, h.row (i := 1) rfl⟩ (fun hHeld => ?_)
          clear hK K
          refine ready_twoL (i := 10) (j := 11) (by kernel_rfl) rfl rfl (by rfl) (by rfl) (fun K hK => ?_) (fun K hK => ?_)
          · go_simp
            refine (cn7 _).mono ?_
            rintro _ wn ⟨rfl, hb⟩
            replace h := h.below hb
            clear hb
            refine hK.out _ _ ⟨h.row (i := 0) rfl, h.row (i := 1) rfl⟩ (fun hHeld => ?_)
            clear hK K
            refine allReadyH_oneL (i := 11) (by kernel_rfl) rfl (by rfl) (fun K hK => ?_)
            refine wp_alloc_R 24 rfl (ec 0) z4w ?_
            obtain ⟨g6, hgq, hq⟩ := h.more 4 24 (ec 0)
            replace h : Fr w _ [(w.heap.size, 26, pc X Y), ((w.heap.size + 1), 26, pc U V), ((w.heap.size + 1 + 1), 26, pc 0 0), (g5, 24, ec n4), (g6, 24, ec 0)] := hq
            rw [hgq]
            clear hgq hq
            refine hK.out _ _ ⟨h.row (i := 0) rfl, h.row (i := 1) rfl⟩ (fun hHeld => ?_)
            clear hK K
            refine allReadyH_oneL (i := 12) (by kernel_rfl) rfl (by rfl) (fun K hK => ?_)
            refine wp_store_R 24 _ _ rfl _ (ec n7) rfl rfl (h.row (i := 4) rfl) (ie4 _) rfl (ec_all _) ?_
            intro wz q hg hz
            replace h : Fr w wz [(w.heap.size, 26, pc X Y), ((w.heap.size + 1), 26, pc U V), ((w.heap.size + 1 + 1), 26, pc 0 0), (g5, 24, ec n4), (g6, 24, ec n7)] := h.put (i := 4) rfl q hg
            clear q hg hz
            refine hK.out _ _ ⟨h.row (i := 0) rfl, h.row (i := 1) rfl⟩ (fun hHeld => ?_)
            clear hK K
            refine wpAnyH_done (by kernel_rfl) ?_ _
            refine NoPanic.normal ?_
            go_wp2
            go_meet
            case rel => exact ⟨_, rfl, h⟩
          · refine wp_alloc_R 24 rfl (ec 0) z4w ?_
            obtain ⟨g6, hgq, hq⟩ := h.more 4 24 (ec 0)
            replace h : Fr w _ [(w.heap.size, 26, pc X Y), ((w.heap.size + 1), 26, pc U V), ((w.heap.size + 1 + 1), 26, pc 0 0), (g5, 24, ec n4), (g6, 24, ec 0)] := hq
            rw [hgq]
            clear hgq hq
            refine hK.out _ _ ⟨h.row (i := 0) rfl, h.row (i := 1) rfl⟩ (fun hHeld => ?_)
            clear hK K
            refine allReadyH_oneL (i := 10) (by kernel_rfl) rfl (by rfl) (fun K hK => ?_)
            go_simp
            refine (cn7 _).mono ?_
            rintro _ wn ⟨rfl, hb⟩
            replace h := h.below hb
            clear hb
            refine hK.out _ _ ⟨h.row (i := 0) rfl, h.row (i := 1) rfl⟩ (fun hHeld => ?_)
            clear hK K
            refine allReadyH_oneL (i := 12) (by kernel_rfl) rfl (by rfl) (fun K hK => ?_)
            refine wp_store_R 24 _ _ rfl _ (ec n7) rfl rfl (h.row (i := 4) rfl) (ie4 _) rfl (ec_all _) ?_
            intro wz q hg hz
            replace h : Fr w wz [(w.heap.size, 26, pc X Y), ((w.heap.size + 1), 26, pc U V), ((w.heap.size + 1 + 1), 26, pc 0 0), (g5, 24, ec n4), (g6, 24, ec n7)] := h.put (i := 4) rfl q hg
            clear q hg hz
            refine hK.out _ _ ⟨h.row (i := 0) rfl, h.row (i := 1) rfl⟩ (fun hHeld => ?_)
            clear hK K
            refine wpAnyH_done (by kernel_rfl) ?_ _
            refine NoPanic.normal ?_
            go_wp2
            go_meet
            case rel => exact ⟨_, rfl, h⟩
        · refine wp_alloc_R 24 rfl (ec 0) z4w ?_
          obtain ⟨g6, hgq, hq⟩ := h.more 4 24 (ec 0)
          replace h : Fr w _ [(w.heap.size, 26, pc X Y), ((w.heap.size + 1), 26, pc U V), ((w.heap.size + 1 + 1), 26, pc 0 0), (g5, 24, ec n4), (g6, 24, ec 0)] := hq
          rw [hgq]
          clear hgq hq
          refine hK.out _ _ ⟨h.row (i := 0) rfl, h.row (i := 1) rfl⟩ (fun hHeld => ?_)
          clear hK K
          refine allReadyH_oneL (i := 9) (by kernel_rfl) rfl (by rfl) (fun K hK => ?_)
          go_simp
          refine (cn6 _).mono ?_
          rintro _ wn ⟨rfl, hb⟩
          replace h := h.below hb
          clear hb
          refine hK.out _ _ ⟨h.row (i := 0) rfl, h.row (i := 1) rfl⟩ (fun hHeld => ?_)
          clear hK K
          refine allReadyH_oneL (i := 10) (by kernel_rfl) rfl (by rfl) (fun K hK => ?_)
          go_simp
          refine (cn7 _).mono ?_
          rintro _ wn ⟨rfl, hb⟩
          replace h := h.below hb
          clear hb
          refine hK.out _ _ ⟨h.row (i := 0) rfl, h.row (i := 1) rfl⟩ (fun hHeld => ?_)
          clear hK K
          refine allReadyH_oneL (i := 12) (by kernel_rfl) rfl (by rfl) (fun K hK => ?_)
          refine wp_store_R 24 _ _ rfl _ (ec n7) rfl rfl (h.row (i := 4) rfl) (ie4 _) rfl (ec_all _) ?_
          intro wz q hg hz
          replace h : Fr w wz [(w.heap.size, 26, pc X Y), ((w.heap.size + 1), 26, pc U V), ((w.heap.size + 1 + 1), 26, pc 0 0), (g5, 24, ec n4), (g6, 24, ec n7)] := h.put (i := 4) rfl q hg
          clear q hg hz
          refine hK.out _ _ ⟨h.row (i := 0) rfl, h.row (i := 1) rfl⟩ (fun hHeld => ?_)
          clear hK K
          refine wpAnyH_done (by kernel_rfl) ?_ _
          refine NoPanic.normal ?_
          go_wp2
          go_meet
          case rel => exact ⟨_, rfl, h⟩
      · refine wp_alloc_R 24 rfl (ec 0) z4w ?_
        obtain ⟨g6, hgq, hq⟩ := h.more 4 24 (ec 0)
        replace h : Fr w _ [(w.heap.size, 26, pc X Y), ((w.heap.size + 1), 26, pc U V), ((w.heap.size + 1 + 1), 26, pc 0 0), (g5, 24, ec n4), (g6, 24, ec 0)] := hq
        rw [hgq]
        clear hgq hq
        refine hK.out _ _ ⟨h.row (i := 0) rfl, h.row (i := 1) rfl⟩ (fun hHeld => ?_)
        clear hK K
        refine allReadyH_oneL (i := 4) (by kernel_rfl) rfl (by rfl) (fun K hK => ?_)
        go_simp
        refine (cn5 _).mono ?_
        rintro _ wn ⟨rfl, hb⟩
        replace h := h.below hb
        clear hb
        refine hK.out _ _ ⟨h.row (i := 0) rfl, h.row (i := 1) rfl⟩ (fun hHeld => ?_)
        clear hK K
        refine allReadyH_oneL (i := 9) (by kernel_rfl) rfl (by rfl) (fun K hK => ?_)
        go_simp
        refine (cn6 _).mono ?_
        rintro _ wn ⟨rfl, hb⟩
        replace h := h.below hb
        clear hb
        refine hK.out _ _ ⟨h.row (i := 0) rfl, h.row (i := 1) rfl⟩ (fun hHeld => ?_)
        clear hK K
        refine allReadyH_oneL (i := 10) (by kernel_rfl) rfl (by rfl) (fun K hK => ?_)
        go_simp
        refine (cn7 _).mono ?_
        rintro _ wn ⟨rfl, hb⟩
        replace h := h.below hb
        clear hb
        refine hK.out _ _ ⟨h.row (i := 0) rfl, h.row (i := 1) rfl⟩ (fun hHeld => ?_)
        clear hK K
        refine allReadyH_oneL (i := 12) (by kernel_rfl) rfl (by rfl) (fun K hK => ?_)
        refine wp_store_R 24 _ _ rfl _ (ec n7) rfl rfl (h.row (i := 4) rfl) (ie4 _) rfl (ec_all _) ?_
        intro wz q hg hz
        replace h : Fr w wz [(w.heap.size, 26, pc X Y), ((w.heap.size + 1), 26, pc U V), ((w.heap.size + 1 + 1), 26, pc 0 0), (g5, 24, ec n4), (g6, 24, ec n7)] := h.put (i := 4) rfl q hg
        clear q hg hz
        refine hK.out _ _ ⟨h.row (i := 0) rfl, h.row (i := 1) rfl⟩ (fun hHeld => ?_)
        clear hK K
        refine wpAnyH_done (by kernel_rfl) ?_ _
        refine NoPanic.normal ?_
        go_wp2
        go_meet
        case rel => exact ⟨_, rfl, h⟩
    case rest =>
      clear h
      obtain ⟨g6, rfl, h⟩ := hcut
      go_upto_region 5 with fail
      try simp only [Act.put, List.setIfInBounds_toArray, List.set_cons_zero, List.set_cons_succ]
      replace h := h.drew
      go_cut [7] (fun v7 wc => ∃ g7, v7 = .pointer (some ⟨g7, 0, none⟩) ∧ Fr w wc [(w.heap.size, 26, pc X Y), ((w.heap.size + 1), 26, pc U V), ((w.heap.size + 1 + 1), 26, pc 0 0), (g5, 24, ec n4), (g6, 24, ec n7), (g7, 24, ec n8)])
      case first =>
        refine wp_region_noPanic ?_
        refine wp_region_held_drew (S := fun w' => Row w' w.heap.size 26 (pc X Y) ∧ Row w' (w.heap.size + 1) 26 (pc U V)) (by kernel_rfl) ⟨h.row (i := 0) rfl, h.row (i := 1) rfl⟩ (fun hHeld => ?_)
        refine wpAnyH_takeL (i := 0) (v := ?vt17) rfl (by kernel_rfl) (by kernel_rfl) (by kernel_rfl) (fun _ _ _ h => h) (by rfl) ?ht17 (by assumption) ?_
        case ht17 => intro w hSw; go_simp <;> with_reducible rfl
        simp only [Act.put, List.setIfInBounds_toArray, List.set_cons_zero, List.set_cons_succ]
        refine wpAnyH_takeL (i := 1) (v := (.agg (ec Y).toArray)) rfl (by kernel_rfl) (by kernel_rfl) (by kernel_rfl) (fun _ _ _ h => h) (by rfl) ?ht18 (by assumption) ?_
        case ht18 => intro w hSw; exact exec_load_at 24 _ rfl rfl (pc_y hSw.1) rfl Tryd.underlying24 (ie4 _)
        simp only [Act.put, List.setIfInBounds_toArray, List.set_cons_zero, List.set_cons_succ]
        refine wpAnyH_takeL (i := 2) (v := ?vt19) rfl (by kernel_rfl) (by kernel_rfl) (by kernel_rfl) (fun _ _ _ h => h) (by rfl) ?ht19 (by assumption) ?_
        case ht19 => intro w hSw; go_simp <;> with_reducible rfl
        simp only [Act.put, List.setIfInBounds_toArray, List.set_cons_zero, List.set_cons_succ]
        refine wpAnyH_takeL (i := 3) (v := (.agg (ec V).toArray)) rfl (by kernel_rfl) (by kernel_rfl) (by kernel_rfl) (fun _ _ _ h => h) (by rfl) ?ht20 (by assumption) ?_
        case ht20 => intro w hSw; exact exec_load_at 24 _ rfl rfl (pc_y hSw.2) rfl Tryd.underlying24 (ie4 _)
        simp only [Act.put, List.setIfInBounds_toArray, List.set_cons_zero, List.set_cons_succ]
        refine wpAnyH_takeL (i := 5) (v := ?vt21) rfl (by kernel_rfl) (by kernel_rfl) (by kernel_rfl) (fun _ _ _ h => h) (by rfl) ?ht21 (by assumption) ?_
        case ht21 => intro w hSw; go_simp <;> with_reducible rfl
        simp only [Act.put, List.setIfInBounds_toArray, List.set_cons_zero, List.set_cons_succ]
        refine wpAnyH_takeL (i := 6) (v := (.agg (ec X).toArray)) rfl (by kernel_rfl) (by kernel_rfl) (by kernel_rfl) (fun _ _ _ h => h) (by rfl) ?ht22 (by assumption) ?_
        case ht22 => intro w hSw; exact exec_load_at 24 _ rfl rfl (pc_x hSw.1) rfl Tryd.underlying24 (ie4 _)
        simp only [Act.put, List.setIfInBounds_toArray, List.set_cons_zero, List.set_cons_succ]
        refine wpAnyH_takeL (i := 7) (v := ?vt23) rfl (by kernel_rfl) (by kernel_rfl) (by kernel_rfl) (fun _ _ _ h => h) (by rfl) ?ht23 (by assumption) ?_
        case ht23 => intro w hSw; go_simp <;> with_reducible rfl
        simp only [Act.put, List.setIfInBounds_toArray, List.set_cons_zero, List.set_cons_succ]
        refine wpAnyH_takeL (i := 8) (v := (.agg (ec U).toArray)) rfl (by kernel_rfl) (by kernel_rfl) (by kernel_rfl) (fun _ _ _ h => h) (by rfl) ?ht24 (by assumption) ?_
        case ht24 => intro w hSw; exact exec_load_at 24 _ rfl rfl (pc_x hSw.2) rfl Tryd.underlying24 (ie4 _)
        simp only [Act.put, List.setIfInBounds_toArray, List.set_cons_zero, List.set_cons_succ]
        refine ready_twoL (i := 4) (j := 11) (by kernel_rfl) rfl rfl (by rfl) (by rfl) (fun K hK => ?_) (fun K hK => ?_)
        · go_simp
          refine (cn2 _).mono ?_
          rintro _ wn ⟨rfl, hb⟩
          replace h := h.below hb
          clear hb
          refine hK.out _ _ ⟨h.row (i := 0) rfl, h.row (i := 1) rfl⟩ (fun hHeld => ?_)
          clear hK K
          refine ready_twoL (i := 9) (j := 11) (by kernel_rfl) rfl rfl (by rfl) (by rfl) (fun K hK => ?_) (fun K hK => ?_)
          · go_simp
            refine (cn1 _).mono ?_
            rintro _ wn ⟨rfl, hb⟩
            replace h := h.below hb
            clear hb
            refine hK.out _ _ ⟨h.row (i := 0) rfl, h.row (i := 1) rfl⟩ (fun hHeld => ?_)
            clear hK K
            refine ready_twoL (i := 10) (j := 11) (by kernel_rfl) rfl rfl (by rfl) (by rfl) (fun K hK => ?_) (fun K hK => ?_)
            · go_simp
              refine (cn8 _).mono ?_
              rintro _ wn ⟨rfl, hb⟩
              replace h := h.below hb
              clear hb
              refine hK.out _ _ ⟨h.row (i := 0) rfl, h.row (i := 1) rfl⟩ (fun hHeld => ?_)
              clear hK K
              refine allReadyH_oneL (i := 11) (by kernel_rfl) rfl (by rfl) (fun K hK => ?_)
              refine wp_alloc_R 24 rfl (ec 0) z4w ?_
              obtain ⟨g7, hgq, hq⟩ := h.more 5 24 (ec 0)
              replace h : Fr w _ [(w.heap.size, 26, pc X Y), ((w.heap.size + 1), 26, pc U V), ((w.heap.size + 1 + 1), 26, pc 0 0), (g5, 24, ec n4), (g6, 24, ec n7), (g7, 24, ec 0)] := hq
              rw [hgq]
              clear hgq hq
              refine hK.out _ _ ⟨h.row (i := 0) rfl, h.row (i := 1) rfl⟩ (fun hHeld => ?_)
              clear hK K
              refine allReadyH_oneL (i := 12) (by kernel_rfl) rfl (by rfl) (fun K hK => ?_)
              refine wp_store_R 24 _ _ rfl _ (ec n8) rfl rfl (h.row (i := 5) rfl) (ie4 _) rfl (ec_all _) ?_
              intro wz q hg hz
              replace h : Fr w wz [(w.heap.size, 26, pc X Y), ((w.heap.size + 1), 26, pc U V), ((w.heap.size + 1 + 1), 26, pc 0 0), (g5, 24, ec n4), (g6, 24, ec n7), (g7, 24, ec n8)] := h.put (i := 5) rfl q hg
              clear q hg hz
              refine hK.out _ _ ⟨h.row (i := 0) rfl, h.row (i := 1) rfl⟩ (fun hHeld => ?_)
              clear hK K
              refine wpAnyH_done (by kernel_rfl) ?_ _
              refine NoPanic.normal ?_
              go_wp2
              go_meet
              case rel => exact ⟨_, rfl, h⟩
            · refine wp_alloc_R 24 rfl (ec 0) z4w ?_
              obtain ⟨g7, hgq, hq⟩ := h.more 5 24 (ec 0)
              replace h : Fr w _ [(w.heap.size, 26, pc X Y), ((w.heap.size + 1), 26, pc U V), ((w.heap.size + 1 + 1), 26, pc 0 0), (g5, 24, ec n4), (g6, 24, ec n7), (g7, 24, ec 0)] := hq
              rw [hgq]
              clear hgq hq
              refine hK.out _ _ ⟨h.row (i := 0) rfl, h.row (i := 1) rfl⟩ (fun hHeld => ?_)
              clear hK K
              refine allReadyH_oneL (i := 10) (by kernel_rfl) rfl (by rfl) (fun K hK => ?_)
              go_simp
              refine (cn8 _).mono ?_
              rintro _ wn ⟨rfl, hb⟩
              replace h := h.below hb
              clear hb
              refine hK.out _ _ ⟨h.row (i := 0) rfl, h.row (i := 1) rfl⟩ (fun hHeld => ?_)
              clear hK K
              refine allReadyH_oneL (i := 12) (by kernel_rfl) rfl (by rfl) (fun K hK => ?_)
              refine wp_store_R 24 _ _ rfl _ (ec n8) rfl rfl (h.row (i := 5) rfl) (ie4 _) rfl (ec_all _) ?_
              intro wz q hg hz
              replace h : Fr w wz [(w.heap.size, 26, pc X Y), ((w.heap.size + 1), 26, pc U V), ((w.heap.size + 1 + 1), 26, pc 0 0), (g5, 24, ec n4), (g6, 24, ec n7), (g7, 24, ec n8)] := h.put (i := 5) rfl q hg
              clear q hg hz
              refine hK.out _ _ ⟨h.row (i := 0) rfl, h.row (i := 1) rfl⟩ (fun hHeld => ?_)
              clear hK K
              refine wpAnyH_done (by kernel_rfl) ?_ _
              refine NoPanic.normal ?_
              go_wp2
              go_meet
              case rel => exact ⟨_, rfl, h⟩
          · refine wp_alloc_R 24 rfl (ec 0) z4w ?_
            obtain ⟨g7, hgq, hq⟩ := h.more 5 24 (ec 0)
            replace h : Fr w _ [(w.heap.size, 26, pc X Y), ((w.heap.size + 1), 26, pc U V), ((w.heap.size + 1 + 1), 26, pc 0 0), (g5, 24, ec n4), (g6, 24, ec n7), (g7, 24, ec 0)] := hq
            rw [hgq]
            clear hgq hq
            refine hK.out _ _ ⟨h.row (i := 0) rfl, h.row (i := 1) rfl⟩ (fun hHeld => ?_)
            clear hK K
            refine allReadyH_oneL (i := 9) (by kernel_rfl) rfl (by rfl) (fun K hK => ?_)
            go_simp
            refine (cn1 _).mono ?_
            rintro _ wn ⟨rfl, hb⟩
            replace h := h.below hb
            clear hb
            refine hK.out _ _ ⟨h.row (i := 0) rfl, h.row (i := 1) rfl⟩ (fun hHeld => ?_)
            clear hK K
            refine allReadyH_oneL (i := 10) (by kernel_rfl) rfl (by rfl) (fun K hK => ?_)
            go_simp
            refine (cn8 _).mono ?_
            rintro _ wn ⟨rfl, hb⟩
            replace h := h.below hb
            clear hb
            refine hK.out _ _ ⟨h.row (i := 0) rfl, h.row (i := 1) rfl⟩ (fun hHeld => ?_)
            clear hK K
            refine allReadyH_oneL (i := 12) (by kernel_rfl) rfl (by rfl) (fun K hK => ?_)
            refine wp_store_R 24 _ _ rfl _ (ec n8) rfl rfl (h.row (i := 5) rfl) (ie4 _) rfl (ec_all _) ?_
            intro wz q hg hz
            replace h : Fr w wz [(w.heap.size, 26, pc X Y), ((w.heap.size + 1), 26, pc U V), ((w.heap.size + 1 + 1), 26, pc 0 0), (g5, 24, ec n4), (g6, 24, ec n7), (g7, 24, ec n8)] := h.put (i := 5) rfl q hg
            clear q hg hz
            refine hK.out _ _ ⟨h.row (i := 0) rfl, h.row (i := 1) rfl⟩ (fun hHeld => ?_)
            clear hK K
            refine wpAnyH_done (by kernel_rfl) ?_ _
            refine NoPanic.normal ?_
            go_wp2
            go_meet
            case rel => exact ⟨_, rfl, h⟩
        · refine wp_alloc_R 24 rfl (ec 0) z4w ?_
          obtain ⟨g7, hgq, hq⟩ := h.more 5 24 (ec 0)
          replace h : Fr w _ [(w.heap.size, 26, pc X Y), ((w.heap.size + 1), 26, pc U V), ((w.heap.size + 1 + 1), 26, pc 0 0), (g5, 24, ec n4), (g6, 24, ec n7), (g7, 24, ec 0)] := hq
          rw [hgq]
          clear hgq hq
          refine hK.out _ _ ⟨h.row (i := 0) rfl, h.row (i := 1) rfl⟩ (fun hHeld => ?_)
          clear hK K
          refine allReadyH_oneL (i := 4) (by kernel_rfl) rfl (by rfl) (fun K hK => ?_)
          go_simp
          refine (cn2 _).mono ?_
          rintro _ wn ⟨rfl, hb⟩
          replace h := h.below hb
          clear hb
          refine hK.out _ _ ⟨h.row (i := 0) rfl, h.row (i := 1) rfl⟩ (fun hHeld => ?_)
          clear hK K
          refine allReadyH_oneL (i := 9) (by kernel_rfl) rfl (by rfl) (fun K hK => ?_)
          go_simp
          refine (cn1 _).mono ?_
          rintro _ wn ⟨rfl, hb⟩
          replace h := h.below hb
          clear hb
          refine hK.out _ _ ⟨h.row (i := 0) rfl, h.row (i := 1) rfl⟩ (fun hHeld => ?_)
          clear hK K
          refine allReadyH_oneL (i := 10) (by kernel_rfl) rfl (by rfl) (fun K hK => ?_)
          go_simp
          refine (cn8 _).mono ?_
          rintro _ wn ⟨rfl, hb⟩
          replace h := h.below hb
          clear hb
          refine hK.out _ _ ⟨h.row (i := 0) rfl, h.row (i := 1) rfl⟩ (fun hHeld => ?_)
          clear hK K
          refine allReadyH_oneL (i := 12) (by kernel_rfl) rfl (by rfl) (fun K hK => ?_)
          refine wp_store_R 24 _ _ rfl _ (ec n8) rfl rfl (h.row (i := 5) rfl) (ie4 _) rfl (ec_all _) ?_
          intro wz q hg hz
          replace h : Fr w wz [(w.heap.size, 26, pc X Y), ((w.heap.size + 1), 26, pc U V), ((w.heap.size + 1 + 1), 26, pc 0 0), (g5, 24, ec n4), (g6, 24, ec n7), (g7, 24, ec n8)] := h.put (i := 5) rfl q hg
          clear q hg hz
          refine hK.out _ _ ⟨h.row (i := 0) rfl, h.row (i := 1) rfl⟩ (fun hHeld => ?_)
          clear hK K
          refine wpAnyH_done (by kernel_rfl) ?_ _
          refine NoPanic.normal ?_
          go_wp2
          go_meet
          case rel => exact ⟨_, rfl, h⟩
      case rest =>
        clear h
        obtain ⟨g7, rfl, h⟩ := hcut
        go_wp2_with (first | refine wpList_build_C rfl 24 _ rfl (ec 1) (by kernel_rfl) ?_ | refine wpList_load_row rfl 24 _ rfl _ rfl _ _ _ _ (h.row (i := 3) rfl) Tryd.underlying24 rfl (ie4 _) ?_)
        refine (cn9 _).mono ?_
        rintro _ wn ⟨rfl, hb⟩
        replace h := h.below hb
        clear hb
        go_wp2_with (fail)
        refine (cn10 _).mono ?_
        rintro _ wn ⟨rfl, hb⟩
        replace h := h.below hb
        clear hb
        obtain ⟨g8, hgq, hq⟩ := h.more 6 24 (ec 0)
        replace hq : Fr w _ [(w.heap.size, 26, pc X Y), ((w.heap.size + 1), 26, pc U V), ((w.heap.size + 1 + 1), 26, pc 0 0), (g5, 24, ec n4), (g6, 24, ec n7), (g7, 24, ec n8), (g8, 24, ec 0)] := hq
        go_upto_region 7 with (first | refine wpList_alloc_row rfl 24 rfl _ z4w ?_ | (refine wpList_store_R rfl 24 _ _ rfl _ (ec n10) (congrArg (fun g => Value.pointer (some ⟨g, 0, none⟩)) hgq) rfl (hq.row (i := 6) rfl) (ie4 _) rfl (ec_all _) ?_; intro wz q hg hz))
        replace h : Fr w wz [(w.heap.size, 26, pc X Y), ((w.heap.size + 1), 26, pc U V), ((w.heap.size + 1 + 1), 26, pc 0 0), (g5, 24, ec n4), (g6, 24, ec n7), (g7, 24, ec n8), (g8, 24, ec n10)] := hq.put (i := 6) rfl q hg
        try rw [hgq]
        clear q hg hz hq hgq
        go_wp2_with (first | refine wpList_build_C rfl 24 _ rfl (ec 1) (by kernel_rfl) ?_ | refine wpList_load_row rfl 24 _ rfl _ rfl _ _ _ _ (h.row (i := 3) rfl) Tryd.underlying24 rfl (ie4 _) ?_)
        refine (cn11 _).mono ?_
        rintro _ wn ⟨rfl, hb⟩
        replace h := h.below hb
        clear hb
        go_wp2_with (fail)
        refine (cn12 _).mono ?_
        rintro _ wn ⟨rfl, hb⟩
        replace h := h.below hb
        clear hb
        obtain ⟨g9, hgq, hq⟩ := h.more 7 24 (ec 0)
        replace hq : Fr w _ [(w.heap.size, 26, pc X Y), ((w.heap.size + 1), 26, pc U V), ((w.heap.size + 1 + 1), 26, pc 0 0), (g5, 24, ec n4), (g6, 24, ec n7), (g7, 24, ec n8), (g8, 24, ec n10), (g9, 24, ec 0)] := hq
        go_upto_region 8 with (first | refine wpList_alloc_row rfl 24 rfl _ z4w ?_ | (refine wpList_store_R rfl 24 _ _ rfl _ (ec n12) (congrArg (fun g => Value.pointer (some ⟨g, 0, none⟩)) hgq) rfl (hq.row (i := 7) rfl) (ie4 _) rfl (ec_all _) ?_; intro wz q hg hz))
        replace h : Fr w wz [(w.heap.size, 26, pc X Y), ((w.heap.size + 1), 26, pc U V), ((w.heap.size + 1 + 1), 26, pc 0 0), (g5, 24, ec n4), (g6, 24, ec n7), (g7, 24, ec n8), (g8, 24, ec n10), (g9, 24, ec n12)] := hq.put (i := 7) rfl q hg
        try rw [hgq]
        clear q hg hz hq hgq
        try simp only [Act.put]
        replace h := h.drew
        refine wp_region_noPanic ?_
        refine wp_region_held_drew (S := fun w' => Row w' g6 24 (ec n7) ∧ Row w' g8 24 (ec n10) ∧ Row w' g7 24 (ec n8) ∧ Row w' g9 24 (ec n12)) (by kernel_rfl) ⟨h.row (i := 4) rfl, h.row (i := 6) rfl, h.row (i := 5) rfl, h.row (i := 7) rfl⟩ (fun hHeld => ?_)
        refine wpAnyH_takeL (i := 0) (v := (.agg (ec n7).toArray)) rfl (by kernel_rfl) (by kernel_rfl) (by kernel_rfl) (fun _ _ _ h => h) (by rfl) ?ht25 (by assumption) ?_
        case ht25 => intro w hSw; exact exec_load_W 24 _ rfl rfl hSw.1 Tryd.underlying24 rfl (ie4 _)
        simp only [Act.put, List.setIfInBounds_toArray, List.set_cons_zero, List.set_cons_succ]
        refine wpAnyH_takeL (i := 1) (v := (.agg (ec n10).toArray)) rfl (by kernel_rfl) (by kernel_rfl) (by kernel_rfl) (fun _ _ _ h => h) (by rfl) ?ht26 (by assumption) ?_
        case ht26 => intro w hSw; exact exec_load_W 24 _ rfl rfl hSw.2.1 Tryd.underlying24 rfl (ie4 _)
        simp only [Act.put, List.setIfInBounds_toArray, List.set_cons_zero, List.set_cons_succ]
        refine wpAnyH_takeL (i := 3) (v := (.agg (ec n8).toArray)) rfl (by kernel_rfl) (by kernel_rfl) (by kernel_rfl) (fun _ _ _ h => h) (by rfl) ?ht27 (by assumption) ?_
        case ht27 => intro w hSw; exact exec_load_W 24 _ rfl rfl hSw.2.2.1 Tryd.underlying24 rfl (ie4 _)
        simp only [Act.put, List.setIfInBounds_toArray, List.set_cons_zero, List.set_cons_succ]
        refine wpAnyH_takeL (i := 4) (v := (.agg (ec n12).toArray)) rfl (by kernel_rfl) (by kernel_rfl) (by kernel_rfl) (fun _ _ _ h => h) (by rfl) ?ht28 (by assumption) ?_
        case ht28 => intro w hSw; exact exec_load_W 24 _ rfl rfl hSw.2.2.2 Tryd.underlying24 rfl (ie4 _)
        simp only [Act.put, List.setIfInBounds_toArray, List.set_cons_zero, List.set_cons_succ]
        refine allReadyH_oneL (i := 2) (by kernel_rfl) rfl (by rfl) (fun K hK => ?_)
        go_simp
        refine (cn13 _).mono ?_
        rintro _ wn ⟨rfl, hb⟩
        replace h := h.below hb
        clear hb
        refine hK.out _ _ ⟨h.row (i := 4) rfl, h.row (i := 6) rfl, h.row (i := 5) rfl, h.row (i := 7) rfl⟩ (fun hHeld => ?_)
        clear hK K
        refine allReadyH_oneL (i := 5) (by kernel_rfl) rfl (by rfl) (fun K hK => ?_)
        go_simp
        refine (cn14 _).mono ?_
        rintro _ wn ⟨rfl, hb⟩
        replace h := h.below hb
        clear hb
        refine hK.out _ _ ⟨h.row (i := 4) rfl, h.row (i := 6) rfl, h.row (i := 5) rfl, h.row (i := 7) rfl⟩ (fun hHeld => ?_)
        clear hK K
        refine wpAnyH_takeL (i := 6) (v := (.agg (pc n13 n14).toArray)) rfl (by kernel_rfl) (by kernel_rfl) (by kernel_rfl) (fun _ _ _ h => h) (by rfl) ?ht29 (by assumption) ?_
        case ht29 => intro w hSw; exact exec_build_C 26 _ rfl (pc n13 n14) (by kernel_rfl)
        simp only [Act.put, List.setIfInBounds_toArray, List.set_cons_zero, List.set_cons_succ]
        refine allReadyH_oneL (i := 7) (by kernel_rfl) rfl (by rfl) (fun K hK => ?_)
        refine wp_store_R 26 _ _ rfl _ (pc n13 n14) rfl rfl (h.row (i := 2) rfl) (iP _ _) rfl (pc_all _ _) ?_
        intro wz q hg hz
        replace h : Fr w wz [(w.heap.size, 26, pc X Y), ((w.heap.size + 1), 26, pc U V), ((w.heap.size + 1 + 1), 26, pc n13 n14), (g5, 24, ec n4), (g6, 24, ec n7), (g7, 24, ec n8), (g8, 24, ec n10), (g9, 24, ec n12)] := h.put (i := 2) rfl q hg
        clear q hg hz
        refine hK.out _ _ ⟨h.row (i := 4) rfl, h.row (i := 6) rfl, h.row (i := 5) rfl, h.row (i := 7) rfl⟩ (fun hHeld => ?_)
        clear hK K
        refine wpAnyH_done (by kernel_rfl) ?_ _
        refine NoPanic.normal ?_
        go_wp2
        exact result_row Tryd.results23 rfl (h.row (i := 2) rfl) Tryd.underlying26 rfl (iP _ _) rfl ⟨by rw [HV.out], h.bel⟩

end Go.Proofs.YthjlbcbkllaicaaDoor.F
