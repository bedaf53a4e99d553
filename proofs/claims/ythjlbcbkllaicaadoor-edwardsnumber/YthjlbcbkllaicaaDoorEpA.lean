/-
  The program's Zero, twice, negative, scale, On, counted; over this seat's translation. Conditions: each as it says.
-/
import Derived.Test.YthjlbcbkllaicaaDoorEdR
namespace Go.Proofs.YthjlbcbkllaicaaDoor.F
open Go.RowKit
set_option linter.unusedVariables false
set_option maxRecDepth 10000

open E (z z_val z_same z_add z_mul z_sub z_inv z_mod z_of dd Pt padd pneg pmul iv ax ay Sc)
theorem from1 (w : World) : Calls Tryd.prog 36 #[.int .u64 1] w fun e w' => e = .returned (.agg (ec 1).toArray) ∧ Below w.heap.size w w' := from_el 1 (by decide) w
theorem twice_el (A : Nat) (lA : A < 115792089237316195423570985008687907853269984665640564039457584007913129639936) (w : World) (hP : Tab w) : Calls Tryd.prog 69 #[.agg (ec A).toArray] w fun e w' => e = .returned (.agg (ec ((A + A) % P)).toArray) ∧ Below w.heap.size w w' := by
  obtain ⟨w2, h2, h⟩ := Fr.two w 24 24 (ec A) (ec 0)
  obtain ⟨n1, en1, ln1, cn1⟩ : ∃ n, (A + A) % P = n ∧ n < 115792089237316195423570985008687907853269984665640564039457584007913129639936 ∧ ∀ (w : World), Tab w → Calls Tryd.prog 35 #[.agg (ec A).toArray, .agg (ec A).toArray] w fun e w' => e = .returned (.agg (ec n).toArray) ∧ Below w.heap.size w w' := ⟨_, rfl, mod_lt_T _, fun w hT => fadd_el A A lA lA w hT⟩
  replace en1 := Away.mk en1
  rw [en1.out]
  go_enter Tryd.func69, Tryd.ntmps69
  go_upto_region 1 with (refine wpList_alloc_row rfl 24 rfl _ z4w ?_)
  try simp only [Act.put, List.setIfInBounds_toArray, List.set_cons_zero, List.set_cons_succ, alloc_size, h2]
  clear h2
  go_wp2_with (first | refine wpList_load_row rfl 24 _ rfl _ rfl _ _ _ _ (h.row (i := 0) rfl) Tryd.underlying24 rfl (ie4 _) ?_)
  refine (cn1 _ (hP.below h.bel)).mono ?_
  rintro _ wn ⟨rfl, hb⟩
  replace h := h.below hb
  clear hb
  go_wp2_with (first | (refine wpList_store_R rfl 24 _ _ rfl _ (ec n1) rfl rfl (h.row (i := 1) rfl) (ie4 _) rfl (ec_all _) ?_; intro wz q hg hz))
  replace h : Fr w wz [(w.heap.size, 24, ec A), ((w.heap.size + 1), 24, ec n1)] := h.put (i := 1) rfl q hg
  clear q hg hz
  exact result_row Tryd.results69 rfl (h.row (i := 1) rfl) Tryd.underlying24 rfl (ie4 _) rfl ⟨rfl, h.bel⟩
theorem negative_el (A : Nat) (lA : A < 115792089237316195423570985008687907853269984665640564039457584007913129639936) (w : World) (hP : Tab w) : Calls Tryd.prog 42 #[.agg (ec A).toArray] w fun e w' => e = .returned (.agg (ec ((0 % P + (P - A % P)) % P)).toArray) ∧ Below w.heap.size w w' := by
  obtain ⟨w2, h2, h⟩ := Fr.two w 24 24 (ec A) (ec 0)
  obtain ⟨n1, en1, ln1, cn1⟩ : ∃ n, (0 % P + (P - A % P)) % P = n ∧ n < 115792089237316195423570985008687907853269984665640564039457584007913129639936 ∧ ∀ (w : World), Tab w → Calls Tryd.prog 32 #[.agg (ec 0).toArray, .agg (ec A).toArray] w fun e w' => e = .returned (.agg (ec n).toArray) ∧ Below w.heap.size w w' := ⟨_, rfl, mod_lt_T _, fun w hT => fsub_el 0 A (by decide) lA w hT⟩
  replace en1 := Away.mk en1
  rw [en1.out]
  go_enter Tryd.func42, Tryd.ntmps42
  go_upto_region 1 with (refine wpList_alloc_row rfl 24 rfl _ z4w ?_)
  try simp only [Act.put, List.setIfInBounds_toArray, List.set_cons_zero, List.set_cons_succ, alloc_size, h2]
  clear h2
  go_wp2_with (first | refine wpList_build_C rfl 24 _ rfl (ec 0) (by kernel_rfl) ?_ | refine wpList_load_row rfl 24 _ rfl _ rfl _ _ _ _ (h.row (i := 0) rfl) Tryd.underlying24 rfl (ie4 _) ?_)
  refine (cn1 _ (hP.below h.bel)).mono ?_
  rintro _ wn ⟨rfl, hb⟩
  replace h := h.below hb
  clear hb
  go_wp2_with (first | (refine wpList_store_R rfl 24 _ _ rfl _ (ec n1) rfl rfl (h.row (i := 1) rfl) (ie4 _) rfl (ec_all _) ?_; intro wz q hg hz))
  replace h : Fr w wz [(w.heap.size, 24, ec A), ((w.heap.size + 1), 24, ec n1)] := h.put (i := 1) rfl q hg
  clear q hg hz
  exact result_row Tryd.results42 rfl (h.row (i := 1) rfl) Tryd.underlying24 rfl (ie4 _) rfl ⟨rfl, h.bel⟩
theorem zero_el (w : World) : Calls Tryd.prog 18 #[] w fun e w' => e = .returned (.agg (pc 0 1).toArray) ∧ Below w.heap.size w w' := by
  have h := Fr.one w 26 (pc 0 0)
  go_enter Tryd.func18, Tryd.ntmps18
  go_upto_region 1 with (refine wpList_alloc_row rfl 26 rfl _ zPw ?_)
  go_wp2_with (fail)
  refine (from1 _).mono ?_
  rintro _ wn ⟨rfl, hb⟩
  replace h := h.below hb
  clear hb
  go_wp2_with (first | refine wpList_build_C rfl 26 _ rfl (pc 0 1) (by kernel_rfl) ?_ | (refine wpList_store_R rfl 26 _ _ rfl _ (pc 0 1) rfl rfl (h.row (i := 0) rfl) (iP _ _) rfl (pc_all _ _) ?_; intro wz q hg hz))
  replace h : Fr w wz [(w.heap.size, 26, pc 0 1)] := h.put (i := 0) rfl q hg
  clear q hg hz
  exact result_row Tryd.results18 rfl (h.row (i := 0) rfl) Tryd.underlying26 rfl (iP _ _) rfl ⟨rfl, h.bel⟩
theorem base_el (w : World) (hB : TB w) : Calls Tryd.prog 20 #[] w fun e w' => e = .returned (.agg (pc Bx By).toArray) ∧ Below w.heap.size w w' := by
  have h := Fr.one w 26 (pc 0 0)
  go_enter Tryd.func20, Tryd.ntmps20
  go_upto_region 1 with (refine wpList_alloc_row rfl 26 rfl _ zPw ?_)
  go_wp2_with (first | refine wpList_load_G rfl 26 _ rfl rfl (hB.below h.bel) Tryd.underlying26 rfl (iP _ _) ?_ | (refine wpList_store_R rfl 26 _ _ rfl _ (pc Bx By) rfl rfl (h.row (i := 0) rfl) (iP _ _) rfl (pc_all _ _) ?_; intro wz q hg hz))
  replace h : Fr w wz [(w.heap.size, 26, pc Bx By)] := h.put (i := 0) rfl q hg
  clear q hg hz
  exact result_row Tryd.results20 rfl (h.row (i := 0) rfl) Tryd.underlying26 rfl (iP _ _) rfl ⟨rfl, h.bel⟩
set_option maxHeartbeats 1000000 in
theorem scale_n (A B : Nat) (lA : A < 115792089237316195423570985008687907853269984665640564039457584007913129639936) (lB : B < 115792089237316195423570985008687907853269984665640564039457584007913129639936) (w : World) (hP : Tab w) : Calls Tryd.prog 48 #[.agg (pc A B).toArray] w fun e w' => e = .returned (.agg (sc A B (A * B % P) 1).toArray) ∧ Below w.heap.size w w' := by
  obtain ⟨w2, h2, h⟩ := Fr.two w 26 52 (pc A B) (sc 0 0 0 0)
  obtain ⟨n1, en1, ln1, cn1⟩ : ∃ n, A * B % P = n ∧ n < 115792089237316195423570985008687907853269984665640564039457584007913129639936 ∧ ∀ (w : World), Tab w → Calls Tryd.prog 33 #[.agg (ec A).toArray, .agg (ec B).toArray] w fun e w' => e = .returned (.agg (ec n).toArray) ∧ Below w.heap.size w w' := ⟨_, rfl, mod_lt_T _, fun w hT => fmul_el A B lA lB w hT⟩
  replace en1 := Away.mk en1
  rw [en1.out]
  go_enter Tryd.func48, Tryd.ntmps48
  go_upto_region 1 with (refine wpList_alloc_row rfl 52 rfl _ zSw ?_)
  try simp only [Act.put, List.setIfInBounds_toArray, List.set_cons_zero, List.set_cons_succ, alloc_size, h2]
  clear h2
  try simp only [Act.put, List.setIfInBounds_toArray, List.set_cons_zero, List.set_cons_succ]
  replace h := h.drew
  refine wp_region_noPanic ?_
  refine wp_region_held_drew (S := fun w' => Row w' w.heap.size 26 (pc A B)) (by kernel_rfl) (h.row (i := 0) rfl) (fun hHeld => ?_)
  refine wpAnyH_takeL (i := 0) (v := ?vt1) rfl (by kernel_rfl) (by kernel_rfl) (by kernel_rfl) (fun _ _ _ h => h) (by rfl) ?ht1 (by assumption) ?_
  case ht1 => intro w hSw; go_simp <;> with_reducible rfl
  simp only [Act.put, List.setIfInBounds_toArray, List.set_cons_zero, List.set_cons_succ]
  refine wpAnyH_takeL (i := 1) (v := (.agg (ec A).toArray)) rfl (by kernel_rfl) (by kernel_rfl) (by kernel_rfl) (fun _ _ _ h => h) (by rfl) ?ht2 (by assumption) ?_
  case ht2 => intro w hSw; exact exec_load_at 24 _ rfl rfl (pc_x hSw) rfl Tryd.underlying24 (ie4 _)
  simp only [Act.put, List.setIfInBounds_toArray, List.set_cons_zero, List.set_cons_succ]
  refine wpAnyH_takeL (i := 2) (v := ?vt3) rfl (by kernel_rfl) (by kernel_rfl) (by kernel_rfl) (fun _ _ _ h => h) (by rfl) ?ht3 (by assumption) ?_
  case ht3 => intro w hSw; go_simp <;> with_reducible rfl
  simp only [Act.put, List.setIfInBounds_toArray, List.set_cons_zero, List.set_cons_succ]
  refine wpAnyH_takeL (i := 3) (v := (.agg (ec B).toArray)) rfl (by kernel_rfl) (by kernel_rfl) (by kernel_rfl) (fun _ _ _ h => h) (by rfl) ?ht4 (by assumption) ?_
  case ht4 => intro w hSw; exact exec_load_at 24 _ rfl rfl (pc_y hSw) rfl Tryd.underlying24 (ie4 _)
  simp only [Act.put, List.setIfInBounds_toArray, List.set_cons_zero, List.set_cons_succ]
  refine wpAnyH_takeL (i := 4) (v := ?vt5) rfl (by kernel_rfl) (by kernel_rfl) (by kernel_rfl) (fun _ _ _ h => h) (by rfl) ?ht5 (by assumption) ?_
  case ht5 => intro w hSw; go_simp <;> with_reducible rfl
  simp only [Act.put, List.setIfInBounds_toArray, List.set_cons_zero, List.set_cons_succ]
  refine wpAnyH_takeL (i := 5) (v := (.agg (ec A).toArray)) rfl (by kernel_rfl) (by kernel_rfl) (by kernel_rfl) (fun _ _ _ h => h) (by rfl) ?ht6 (by assumption) ?_
  case ht6 => intro w hSw; exact exec_load_at 24 _ rfl rfl (pc_x hSw) rfl Tryd.underlying24 (ie4 _)
  simp only [Act.put, List.setIfInBounds_toArray, List.set_cons_zero, List.set_cons_succ]
  refine wpAnyH_takeL (i := 6) (v := ?vt7) rfl (by kernel_rfl) (by kernel_rfl) (by kernel_rfl) (fun _ _ _ h => h) (by rfl) ?ht7 (by assumption) ?_
  case ht7 => intro w hSw; go_simp <;> with_reducible rfl
  simp only [Act.put, List.setIfInBounds_toArray, List.set_cons_zero, List.set_cons_succ]
  refine wpAnyH_takeL (i := 7) (v := (.agg (ec B).toArray)) rfl (by kernel_rfl) (by kernel_rfl) (by kernel_rfl) (fun _ _ _ h => h) (by rfl) ?ht8 (by assumption) ?_
  case ht8 => intro w hSw; exact exec_load_at 24 _ rfl rfl (pc_y hSw) rfl Tryd.underlying24 (ie4 _)
  simp only [Act.put, List.setIfInBounds_toArray, List.set_cons_zero, List.set_cons_succ]
  refine allReadyH_oneL (i := 8) (by kernel_rfl) rfl (by rfl) (fun K hK => ?_)
  go_simp
  refine (cn1 _ (hP.below h.bel)).mono ?_
  rintro _ wn ⟨rfl, hb⟩
  replace h := h.below hb
  clear hb
  refine hK.out _ _ (h.row (i := 0) rfl) (fun hHeld => ?_)
  clear hK K
  refine allReadyH_oneL (i := 9) (by kernel_rfl) rfl (by rfl) (fun K hK => ?_)
  go_simp
  refine (from1 _).mono ?_
  rintro _ wn ⟨rfl, hb⟩
  replace h := h.below hb
  clear hb
  refine hK.out _ _ (h.row (i := 0) rfl) (fun hHeld => ?_)
  clear hK K
  refine wpAnyH_takeL (i := 10) (v := (.agg (sc A B n1 1).toArray)) rfl (by kernel_rfl) (by kernel_rfl) (by kernel_rfl) (fun _ _ _ h => h) (by rfl) ?ht9 (by assumption) ?_
  case ht9 => intro w hSw; exact exec_build_C 52 _ rfl (sc A B n1 1) (by kernel_rfl)
  simp only [Act.put, List.setIfInBounds_toArray, List.set_cons_zero, List.set_cons_succ]
  refine allReadyH_oneL (i := 11) (by kernel_rfl) rfl (by rfl) (fun K hK => ?_)
  refine wp_store_R 52 _ _ rfl _ (sc A B n1 1) rfl rfl (h.row (i := 1) rfl) (iS _ _ _ _) rfl (sc_all _ _ _ _) ?_
  intro wz q hg hz
  replace h : Fr w wz [(w.heap.size, 26, pc A B), ((w.heap.size + 1), 52, sc A B n1 1)] := h.put (i := 1) rfl q hg
  clear q hg hz
  refine hK.out _ _ (h.row (i := 0) rfl) (fun hHeld => ?_)
  clear hK K
  refine wpAnyH_done (by kernel_rfl) ?_ _
  refine NoPanic.normal ?_
  go_wp2
  exact result_row Tryd.results48 rfl (h.row (i := 1) rfl) Tryd.underlying52 rfl (iS _ _ _ _) rfl ⟨rfl, h.bel⟩
theorem scale_let (A B : Nat) (lA : A < 115792089237316195423570985008687907853269984665640564039457584007913129639936) (lB : B < 115792089237316195423570985008687907853269984665640564039457584007913129639936) (p : Pt) (zA : z A = p.x) (zB : z B = p.y) : ∃ U, U < 115792089237316195423570985008687907853269984665640564039457584007913129639936 ∧ Sc p (z A) (z B) (z U) (z 1) ∧ ∀ w, Tab w → Calls Tryd.prog 48 #[.agg (pc A B).toArray] w fun e w' => e = .returned (.agg (sc A B U 1).toArray) ∧ Below w.heap.size w w' :=
  ⟨A * B % P, mod_lt_T _, by rw [z_mul, zA, zB]; exact Sc.one p, fun w hP => scale_n A B lA lB w hP⟩
set_option maxHeartbeats 4000000 in
theorem on_any (A B : Nat) (lA : A < 115792089237316195423570985008687907853269984665640564039457584007913129639936) (lB : B < 115792089237316195423570985008687907853269984665640564039457584007913129639936) (w : World) (hE : TE w) : Calls Tryd.prog 12 #[.agg (pc A B).toArray] w fun e w' => e = .returned (.bool (onB A B)) ∧ Below w.heap.size w w' := by
  have h := Fr.one w 26 (pc A B)
  have hP := hE.p
  have cA := reduce_el A lA
  have cB := reduce_el B lB
  have hqA := fun w => eq4 w (A % P) A (mod_lt_T _) lA
  have hqB := fun w => eq4 w (B % P) B (mod_lt_T _) lB
  obtain ⟨n1, en1, ln1, cn1⟩ : ∃ n, A * A % P = n ∧ n < 115792089237316195423570985008687907853269984665640564039457584007913129639936 ∧ ∀ (w : World), Tab w → Calls Tryd.prog 33 #[.agg (ec A).toArray, .agg (ec A).toArray] w fun e w' => e = .returned (.agg (ec n).toArray) ∧ Below w.heap.size w w' := ⟨_, rfl, mod_lt_T _, fun w hT => fmul_el A A lA lA w hT⟩
  replace en1 := Away.mk en1
  obtain ⟨n2, en2, ln2, cn2⟩ : ∃ n, B * B % P = n ∧ n < 115792089237316195423570985008687907853269984665640564039457584007913129639936 ∧ ∀ (w : World), Tab w → Calls Tryd.prog 33 #[.agg (ec B).toArray, .agg (ec B).toArray] w fun e w' => e = .returned (.agg (ec n).toArray) ∧ Below w.heap.size w w' := ⟨_, rfl, mod_lt_T _, fun w hT => fmul_el B B lB lB w hT⟩
  replace en2 := Away.mk en2
  obtain ⟨n3, en3, ln3, cn3⟩ : ∃ n, (n2 % P + (P - n1 % P)) % P = n ∧ n < 115792089237316195423570985008687907853269984665640564039457584007913129639936 ∧ ∀ (w : World), Tab w → Calls Tryd.prog 32 #[.agg (ec n2).toArray, .agg (ec n1).toArray] w fun e w' => e = .returned (.agg (ec n).toArray) ∧ Below w.heap.size w w' := ⟨_, rfl, mod_lt_T _, fun w hT => fsub_el n2 n1 ln2 ln1 w hT⟩
  replace en3 := Away.mk en3
  obtain ⟨n4, en4, ln4, cn4⟩ : ∃ n, n1 * n2 % P = n ∧ n < 115792089237316195423570985008687907853269984665640564039457584007913129639936 ∧ ∀ (w : World), Tab w → Calls Tryd.prog 33 #[.agg (ec n1).toArray, .agg (ec n2).toArray] w fun e w' => e = .returned (.agg (ec n).toArray) ∧ Below w.heap.size w w' := ⟨_, rfl, mod_lt_T _, fun w hT => fmul_el n1 n2 ln1 ln2 w hT⟩
  replace en4 := Away.mk en4
  obtain ⟨n5, en5, ln5, cn5⟩ : ∃ n, Dn * n4 % P = n ∧ n < 115792089237316195423570985008687907853269984665640564039457584007913129639936 ∧ ∀ (w : World), Tab w → Calls Tryd.prog 33 #[.agg (ec Dn).toArray, .agg (ec n4).toArray] w fun e w' => e = .returned (.agg (ec n).toArray) ∧ Below w.heap.size w w' := ⟨_, rfl, mod_lt_T _, fun w hT => fmul_el Dn n4 lDn ln4 w hT⟩
  replace en5 := Away.mk en5
  obtain ⟨n6, en6, ln6, cn6⟩ : ∃ n, (1 + n5) % P = n ∧ n < 115792089237316195423570985008687907853269984665640564039457584007913129639936 ∧ ∀ (w : World), Tab w → Calls Tryd.prog 35 #[.agg (ec 1).toArray, .agg (ec n5).toArray] w fun e w' => e = .returned (.agg (ec n).toArray) ∧ Below w.heap.size w w' := ⟨_, rfl, mod_lt_T _, fun w hT => fadd_el 1 n5 (by decide) ln5 w hT⟩
  replace en6 := Away.mk en6
  have hq := fun w => eq4 w n3 n6 ln3 ln6
  have HV : Away (onB A B = (decide (A < P) && (decide (B < P) && decide (n3 = n6)))) := ⟨by rw [onB, en1.out, en2.out, en3.out, en4.out, en5.out, en6.out]⟩
  obtain ⟨p, hp⟩ : ∃ p, decide (A < P) = p := ⟨_, rfl⟩
  obtain ⟨q, hq2⟩ : ∃ q, decide (B < P) = q := ⟨_, rfl⟩
  obtain ⟨r, hr⟩ : ∃ r, decide (n3 = n6) = r := ⟨_, rfl⟩
  have eA : decide (A % P = A) = p := by rw [← hp, decide_eq_decide]; exact ⟨fun e => by have := mod_lt_P A; omega, fun e => Nat.mod_eq_of_lt e⟩
  have eB : decide (B % P = B) = q := by rw [← hq2, decide_eq_decide]; exact ⟨fun e => by have := mod_lt_P B; omega, fun e => Nat.mod_eq_of_lt e⟩
  rw [eA] at hqA
  rw [eB] at hqB
  rw [hp, hq2, hr] at HV
  rw [hr] at hq
  clear hp hq2 hr eA eB
  obtain ⟨rA, erA⟩ : ∃ r, A % P = r := ⟨_, rfl⟩
  obtain ⟨rB, erB⟩ : ∃ r, B % P = r := ⟨_, rfl⟩
  rw [erA] at cA hqA
  rw [erB] at cB hqB
  clear erA erB
  go_enter Tryd.func12, Tryd.ntmps12
  go_upto_region 1 with fail
  cases p
  · replace h := h.drew
    refine wp_region_noPanic ?_
    refine wp_region_held_drew (S := fun w' => Row w' w.heap.size 26 (pc A B)) (by kernel_rfl) (h.row (i := 0) rfl) (fun hHeld => ?_)
    refine wpAnyH_takeL (i := 0) (v := ?vt1) rfl (by kernel_rfl) (by kernel_rfl) (by kernel_rfl) (fun _ _ _ h => h) (by rfl) ?ht1 (by assumption) ?_
    case ht1 => intro w hSw; go_simp <;> with_reducible rfl
    simp only [Act.put, List.setIfInBounds_toArray, List.set_cons_zero, List.set_cons_succ]
    refine wpAnyH_takeL (i := 1) (v := (.agg (ec A).toArray)) rfl (by kernel_rfl) (by kernel_rfl) (by kernel_rfl) (fun _ _ _ h => h) (by rfl) ?ht2 (by assumption) ?_
    case ht2 => intro w hSw; exact exec_load_at 24 _ rfl rfl (pc_x hSw) rfl Tryd.underlying24 (ie4 _)
    simp only [Act.put, List.setIfInBounds_toArray, List.set_cons_zero, List.set_cons_succ]
    refine wpAnyH_takeL (i := 3) (v := ?vt3) rfl (by kernel_rfl) (by kernel_rfl) (by kernel_rfl) (fun _ _ _ h => h) (by rfl) ?ht3 (by assumption) ?_
    case ht3 => intro w hSw; go_simp <;> with_reducible rfl
    simp only [Act.put, List.setIfInBounds_toArray, List.set_cons_zero, List.set_cons_succ]
    refine wpAnyH_takeL (i := 4) (v := (.agg (ec A).toArray)) rfl (by kernel_rfl) (by kernel_rfl) (by kernel_rfl) (fun _ _ _ h => h) (by rfl) ?ht4 (by assumption) ?_
    case ht4 => intro w hSw; exact exec_load_at 24 _ rfl rfl (pc_x hSw) rfl Tryd.underlying24 (ie4 _)
    simp only [Act.put, List.setIfInBounds_toArray, List.set_cons_zero, List.set_cons_succ]
    refine allReadyH_oneL (i := 2) (by kernel_rfl) rfl (by rfl) (fun K hK => ?_)
    go_simp
    refine (cA _ (hP.below h.bel)).mono ?_
    rintro _ wn ⟨rfl, hb⟩
    replace h := h.below hb
    clear hb
    refine hK.out _ _ (h.row (i := 0) rfl) (fun hHeld => ?_)
    clear hK K
    refine wpAnyH_takeL (i := 5) (v := ?vt5) rfl (by kernel_rfl) (by kernel_rfl) (by kernel_rfl) (fun _ _ _ h => h) (by rfl) ?ht5 (by assumption) ?_
    case ht5 => intro w hSw; go_simp <;> with_reducible rfl
    simp only [Act.put, List.setIfInBounds_toArray, List.set_cons_zero, List.set_cons_succ]
    refine wpAnyH_takeL (i := 6) (v := ?vt6) rfl (by kernel_rfl) (by kernel_rfl) (by kernel_rfl) (fun _ _ _ h => h) (by rfl) ?ht6 (by assumption) ?_
    case ht6 => intro w hSw; go_simp <;> with_reducible rfl
    simp only [Act.put, List.setIfInBounds_toArray, List.set_cons_zero, List.set_cons_succ]
    refine wpAnyH_skipL (i := 7) rfl (by kernel_rfl) (by kernel_rfl) (by kernel_rfl) (fun _ _ _ h => h) (by rfl) (by assumption) ?_
    simp only [Act.put, List.setIfInBounds_toArray, List.set_cons_zero, List.set_cons_succ]
    refine wpAnyH_skipL (i := 8) rfl (by kernel_rfl) (by kernel_rfl) (by kernel_rfl) (fun _ _ _ h => h) (by rfl) (by assumption) ?_
    simp only [Act.put, List.setIfInBounds_toArray, List.set_cons_zero, List.set_cons_succ]
    refine wpAnyH_skipL (i := 9) rfl (by kernel_rfl) (by kernel_rfl) (by kernel_rfl) (fun _ _ _ h => h) (by rfl) (by assumption) ?_
    simp only [Act.put, List.setIfInBounds_toArray, List.set_cons_zero, List.set_cons_succ]
    refine wpAnyH_skipL (i := 10) rfl (by kernel_rfl) (by kernel_rfl) (by kernel_rfl) (fun _ _ _ h => h) (by rfl) (by assumption) ?_
    simp only [Act.put, List.setIfInBounds_toArray, List.set_cons_zero, List.set_cons_succ]
    refine wpAnyH_skipL (i := 11) rfl (by kernel_rfl) (by kernel_rfl) (by kernel_rfl) (fun _ _ _ h => h) (by rfl) (by assumption) ?_
    simp only [Act.put, List.setIfInBounds_toArray, List.set_cons_zero, List.set_cons_succ]
    refine wpAnyH_skipL (i := 12) rfl (by kernel_rfl) (by kernel_rfl) (by kernel_rfl) (fun _ _ _ h => h) (by rfl) (by assumption) ?_
    simp only [Act.put, List.setIfInBounds_toArray, List.set_cons_zero, List.set_cons_succ]
    refine wpAnyH_takeL (i := 13) (v := ?vt13) rfl (by kernel_rfl) (by kernel_rfl) (by kernel_rfl) (fun _ _ _ h => h) (by rfl) ?ht13 (by assumption) ?_
    case ht13 => intro w hSw; go_simp <;> with_reducible rfl
    simp only [Act.put, List.setIfInBounds_toArray, List.set_cons_zero, List.set_cons_succ]
    refine wpAnyH_done (by kernel_rfl) ?_ _
    refine NoPanic.normal ?_
    go_wp2
    go_ret
    exact ⟨by rw [HV.out]; rfl, h.bel⟩
  · cases q
    · replace h := h.drew
      refine wp_region_noPanic ?_
      refine wp_region_held_drew (S := fun w' => Row w' w.heap.size 26 (pc A B)) (by kernel_rfl) (h.row (i := 0) rfl) (fun hHeld => ?_)
      refine wpAnyH_takeL (i := 0) (v := ?vt14) rfl (by kernel_rfl) (by kernel_rfl) (by kernel_rfl) (fun _ _ _ h => h) (by rfl) ?ht14 (by assumption) ?_
      case ht14 => intro w hSw; go_simp <;> with_reducible rfl
      simp only [Act.put, List.setIfInBounds_toArray, List.set_cons_zero, List.set_cons_succ]
      refine wpAnyH_takeL (i := 1) (v := (.agg (ec A).toArray)) rfl (by kernel_rfl) (by kernel_rfl) (by kernel_rfl) (fun _ _ _ h => h) (by rfl) ?ht15 (by assumption) ?_
      case ht15 => intro w hSw; exact exec_load_at 24 _ rfl rfl (pc_x hSw) rfl Tryd.underlying24 (ie4 _)
      simp only [Act.put, List.setIfInBounds_toArray, List.set_cons_zero, List.set_cons_succ]
      refine wpAnyH_takeL (i := 3) (v := ?vt16) rfl (by kernel_rfl) (by kernel_rfl) (by kernel_rfl) (fun _ _ _ h => h) (by rfl) ?ht16 (by assumption) ?_
      case ht16 => intro w hSw; go_simp <;> with_reducible rfl
      simp only [Act.put, List.setIfInBounds_toArray, List.set_cons_zero, List.set_cons_succ]
      refine wpAnyH_takeL (i := 4) (v := (.agg (ec A).toArray)) rfl (by kernel_rfl) (by kernel_rfl) (by kernel_rfl) (fun _ _ _ h => h) (by rfl) ?ht17 (by assumption) ?_
      case ht17 => intro w hSw; exact exec_load_at 24 _ rfl rfl (pc_x hSw) rfl Tryd.underlying24 (ie4 _)
      simp only [Act.put, List.setIfInBounds_toArray, List.set_cons_zero, List.set_cons_succ]
      refine allReadyH_oneL (i := 2) (by kernel_rfl) rfl (by rfl) (fun K hK => ?_)
      go_simp
      refine (cA _ (hP.below h.bel)).mono ?_
      rintro _ wn ⟨rfl, hb⟩
      replace h := h.below hb
      clear hb
      refine hK.out _ _ (h.row (i := 0) rfl) (fun hHeld => ?_)
      clear hK K
      refine wpAnyH_takeL (i := 5) (v := ?vt18) rfl (by kernel_rfl) (by kernel_rfl) (by kernel_rfl) (fun _ _ _ h => h) (by rfl) ?ht18 (by assumption) ?_
      case ht18 => intro w hSw; go_simp <;> with_reducible rfl
      simp only [Act.put, List.setIfInBounds_toArray, List.set_cons_zero, List.set_cons_succ]
      refine wpAnyH_takeL (i := 6) (v := ?vt19) rfl (by kernel_rfl) (by kernel_rfl) (by kernel_rfl) (fun _ _ _ h => h) (by rfl) ?ht19 (by assumption) ?_
      case ht19 => intro w hSw; go_simp <;> with_reducible rfl
      simp only [Act.put, List.setIfInBounds_toArray, List.set_cons_zero, List.set_cons_succ]
      refine wpAnyH_takeL (i := 7) (v := ?vt20) rfl (by kernel_rfl) (by kernel_rfl) (by kernel_rfl) (fun _ _ _ h => h) (by rfl) ?ht20 (by assumption) ?_
      case ht20 => intro w hSw; go_simp <;> with_reducible rfl
      simp only [Act.put, List.setIfInBounds_toArray, List.set_cons_zero, List.set_cons_succ]
      refine wpAnyH_takeL (i := 8) (v := (.agg (ec B).toArray)) rfl (by kernel_rfl) (by kernel_rfl) (by kernel_rfl) (fun _ _ _ h => h) (by rfl) ?ht21 (by assumption) ?_
      case ht21 => intro w hSw; exact exec_load_at 24 _ rfl rfl (pc_y hSw) rfl Tryd.underlying24 (ie4 _)
      simp only [Act.put, List.setIfInBounds_toArray, List.set_cons_zero, List.set_cons_succ]
      refine wpAnyH_takeL (i := 10) (v := ?vt22) rfl (by kernel_rfl) (by kernel_rfl) (by kernel_rfl) (fun _ _ _ h => h) (by rfl) ?ht22 (by assumption) ?_
      case ht22 => intro w hSw; go_simp <;> with_reducible rfl
      simp only [Act.put, List.setIfInBounds_toArray, List.set_cons_zero, List.set_cons_succ]
      refine wpAnyH_takeL (i := 11) (v := (.agg (ec B).toArray)) rfl (by kernel_rfl) (by kernel_rfl) (by kernel_rfl) (fun _ _ _ h => h) (by rfl) ?ht23 (by assumption) ?_
      case ht23 => intro w hSw; exact exec_load_at 24 _ rfl rfl (pc_y hSw) rfl Tryd.underlying24 (ie4 _)
      simp only [Act.put, List.setIfInBounds_toArray, List.set_cons_zero, List.set_cons_succ]
      refine allReadyH_oneL (i := 9) (by kernel_rfl) rfl (by rfl) (fun K hK => ?_)
      go_simp
      refine (cB _ (hP.below h.bel)).mono ?_
      rintro _ wn ⟨rfl, hb⟩
      replace h := h.below hb
      clear hb
      refine hK.out _ _ (h.row (i := 0) rfl) (fun hHeld => ?_)
      clear hK K
      refine wpAnyH_takeL (i := 12) (v := ?vt24) rfl (by kernel_rfl) (by kernel_rfl) (by kernel_rfl) (fun _ _ _ h => h) (by rfl) ?ht24 (by assumption) ?_
      case ht24 => intro w hSw; go_simp <;> with_reducible rfl
      simp only [Act.put, List.setIfInBounds_toArray, List.set_cons_zero, List.set_cons_succ]
      refine wpAnyH_takeL (i := 13) (v := ?vt25) rfl (by kernel_rfl) (by kernel_rfl) (by kernel_rfl) (fun _ _ _ h => h) (by rfl) ?ht25 (by assumption) ?_
      case ht25 => intro w hSw; go_simp <;> with_reducible rfl
      simp only [Act.put, List.setIfInBounds_toArray, List.set_cons_zero, List.set_cons_succ]
      refine wpAnyH_done (by kernel_rfl) ?_ _
      refine NoPanic.normal ?_
      go_wp2
      go_ret
      exact ⟨by rw [HV.out]; rfl, h.bel⟩
    · replace h := h.drew
      refine wp_region_noPanic ?_
      refine wp_region_held_drew (S := fun w' => Row w' w.heap.size 26 (pc A B)) (by kernel_rfl) (h.row (i := 0) rfl) (fun hHeld => ?_)
      refine wpAnyH_takeL (i := 0) (v := ?vt26) rfl (by kernel_rfl) (by kernel_rfl) (by kernel_rfl) (fun _ _ _ h => h) (by rfl) ?ht26 (by assumption) ?_
      case ht26 => intro w hSw; go_simp <;> with_reducible rfl
      simp only [Act.put, List.setIfInBounds_toArray, List.set_cons_zero, List.set_cons_succ]
      refine wpAnyH_takeL (i := 1) (v := (.agg (ec A).toArray)) rfl (by kernel_rfl) (by kernel_rfl) (by kernel_rfl) (fun _ _ _ h => h) (by rfl) ?ht27 (by assumption) ?_
      case ht27 => intro w hSw; exact exec_load_at 24 _ rfl rfl (pc_x hSw) rfl Tryd.underlying24 (ie4 _)
      simp only [Act.put, List.setIfInBounds_toArray, List.set_cons_zero, List.set_cons_succ]
      refine wpAnyH_takeL (i := 3) (v := ?vt28) rfl (by kernel_rfl) (by kernel_rfl) (by kernel_rfl) (fun _ _ _ h => h) (by rfl) ?ht28 (by assumption) ?_
      case ht28 => intro w hSw; go_simp <;> with_reducible rfl
      simp only [Act.put, List.setIfInBounds_toArray, List.set_cons_zero, List.set_cons_succ]
      refine wpAnyH_takeL (i := 4) (v := (.agg (ec A).toArray)) rfl (by kernel_rfl) (by kernel_rfl) (by kernel_rfl) (fun _ _ _ h => h) (by rfl) ?ht29 (by assumption) ?_
      case ht29 => intro w hSw; exact exec_load_at 24 _ rfl rfl (pc_x hSw) rfl Tryd.underlying24 (ie4 _)
      simp only [Act.put, List.setIfInBounds_toArray, List.set_cons_zero, List.set_cons_succ]
      refine allReadyH_oneL (i := 2) (by kernel_rfl) rfl (by rfl) (fun K hK => ?_)
      go_simp
      refine (cA _ (hP.below h.bel)).mono ?_
      rintro _ wn ⟨rfl, hb⟩
      replace h := h.below hb
      clear hb
      refine hK.out _ _ (h.row (i := 0) rfl) (fun hHeld => ?_)
      clear hK K
      refine wpAnyH_takeL (i := 5) (v := ?vt30) rfl (by kernel_rfl) (by kernel_rfl) (by kernel_rfl) (fun _ _ _ h => h) (by rfl) ?ht30 (by assumption) ?_
      case ht30 => intro w hSw; go_simp <;> with_reducible rfl
      simp only [Act.put, List.setIfInBounds_toArray, List.set_cons_zero, List.set_cons_succ]
      refine wpAnyH_takeL (i := 6) (v := ?vt31) rfl (by kernel_rfl) (by kernel_rfl) (by kernel_rfl) (fun _ _ _ h => h) (by rfl) ?ht31 (by assumption) ?_
      case ht31 => intro w hSw; go_simp <;> with_reducible rfl
      simp only [Act.put, List.setIfInBounds_toArray, List.set_cons_zero, List.set_cons_succ]
      refine wpAnyH_takeL (i := 7) (v := ?vt32) rfl (by kernel_rfl) (by kernel_rfl) (by kernel_rfl) (fun _ _ _ h => h) (by rfl) ?ht32 (by assumption) ?_
      case ht32 => intro w hSw; go_simp <;> with_reducible rfl
      simp only [Act.put, List.setIfInBounds_toArray, List.set_cons_zero, List.set_cons_succ]
      refine wpAnyH_takeL (i := 8) (v := (.agg (ec B).toArray)) rfl (by kernel_rfl) (by kernel_rfl) (by kernel_rfl) (fun _ _ _ h => h) (by rfl) ?ht33 (by assumption) ?_
      case ht33 => intro w hSw; exact exec_load_at 24 _ rfl rfl (pc_y hSw) rfl Tryd.underlying24 (ie4 _)
      simp only [Act.put, List.setIfInBounds_toArray, List.set_cons_zero, List.set_cons_succ]
      refine wpAnyH_takeL (i := 10) (v := ?vt34) rfl (by kernel_rfl) (by kernel_rfl) (by kernel_rfl) (fun _ _ _ h => h) (by rfl) ?ht34 (by assumption) ?_
      case ht34 => intro w hSw; go_simp <;> with_reducible rfl
      simp only [Act.put, List.setIfInBounds_toArray, List.set_cons_zero, List.set_cons_succ]
      refine wpAnyH_takeL (i := 11) (v := (.agg (ec B).toArray)) rfl (by kernel_rfl) (by kernel_rfl) (by kernel_rfl) (fun _ _ _ h => h) (by rfl) ?ht35 (by assumption) ?_
      case ht35 => intro w hSw; exact exec_load_at 24 _ rfl rfl (pc_y hSw) rfl Tryd.underlying24 (ie4 _)
      simp only [Act.put, List.setIfInBounds_toArray, List.set_cons_zero, List.set_cons_succ]
      refine allReadyH_oneL (i := 9) (by kernel_rfl) rfl (by rfl) (fun K hK => ?_)
      go_simp
      refine (cB _ (hP.below h.bel)).mono ?_
      rintro _ wn ⟨rfl, hb⟩
      replace h := h.below hb
      clear hb
      refine hK.out _ _ (h.row (i := 0) rfl) (fun hHeld => ?_)
      clear hK K
      refine wpAnyH_takeL (i := 12) (v := ?vt36) rfl (by kernel_rfl) (by kernel_rfl) (by kernel_rfl) (fun _ _ _ h => h) (by rfl) ?ht36 (by assumption) ?_
      case ht36 => intro w hSw; go_simp <;> with_reducible rfl
      simp only [Act.put, List.setIfInBounds_toArray, List.set_cons_zero, List.set_cons_succ]
      refine wpAnyH_takeL (i := 13) (v := ?vt37) rfl (by kernel_rfl) (by kernel_rfl) (by kernel_rfl) (fun _ _ _ h => h) (by rfl) ?ht37 (by assumption) ?_
      case ht37 => intro w hSw; go_simp <;> with_reducible rfl
      simp only [Act.put, List.setIfInBounds_toArray, List.set_cons_zero, List.set_cons_succ]
      refine wpAnyH_done (by kernel_rfl) ?_ _
      refine NoPanic.normal ?_
      go_upto_region 3 with fail
      try simp only [Act.put, List.setIfInBounds_toArray, List.set_cons_zero, List.set_cons_succ]
      replace h := h.drew
      go_cut [3, 4] (fun v3 v4 wc => ∃ g3 g4, v3 = .pointer (some ⟨g3, 0, none⟩) ∧ v4 = .pointer (some ⟨g4, 0, none⟩) ∧ Fr w wc [(w.heap.size, 26, pc A B), (g3, 24, ec n1), (g4, 24, ec n2)])
      case first =>
        refine wp_region_noPanic ?_
        refine wp_region_held_drew (S := fun w' => Row w' w.heap.size 26 (pc A B)) (by kernel_rfl) (h.row (i := 0) rfl) (fun hHeld => ?_)
        refine wpAnyH_takeL (i := 0) (v := ?vt38) rfl (by kernel_rfl) (by kernel_rfl) (by kernel_rfl) (fun _ _ _ h => h) (by rfl) ?ht38 (by assumption) ?_
        case ht38 => intro w hSw; go_simp <;> with_reducible rfl
        simp only [Act.put, List.setIfInBounds_toArray, List.set_cons_zero, List.set_cons_succ]
        refine wpAnyH_takeL (i := 1) (v := (.agg (ec A).toArray)) rfl (by kernel_rfl) (by kernel_rfl) (by kernel_rfl) (fun _ _ _ h => h) (by rfl) ?ht39 (by assumption) ?_
        case ht39 => intro w hSw; exact exec_load_at 24 _ rfl rfl (pc_x hSw) rfl Tryd.underlying24 (ie4 _)
        simp only [Act.put, List.setIfInBounds_toArray, List.set_cons_zero, List.set_cons_succ]
        refine wpAnyH_takeL (i := 2) (v := ?vt40) rfl (by kernel_rfl) (by kernel_rfl) (by kernel_rfl) (fun _ _ _ h => h) (by rfl) ?ht40 (by assumption) ?_
        case ht40 => intro w hSw; go_simp <;> with_reducible rfl
        simp only [Act.put, List.setIfInBounds_toArray, List.set_cons_zero, List.set_cons_succ]
        refine wpAnyH_takeL (i := 3) (v := (.agg (ec A).toArray)) rfl (by kernel_rfl) (by kernel_rfl) (by kernel_rfl) (fun _ _ _ h => h) (by rfl) ?ht41 (by assumption) ?_
        case ht41 => intro w hSw; exact exec_load_at 24 _ rfl rfl (pc_x hSw) rfl Tryd.underlying24 (ie4 _)
        simp only [Act.put, List.setIfInBounds_toArray, List.set_cons_zero, List.set_cons_succ]
        refine wpAnyH_takeL (i := 5) (v := ?vt42) rfl (by kernel_rfl) (by kernel_rfl) (by kernel_rfl) (fun _ _ _ h => h) (by rfl) ?ht42 (by assumption) ?_
        case ht42 => intro w hSw; go_simp <;> with_reducible rfl
        simp only [Act.put, List.setIfInBounds_toArray, List.set_cons_zero, List.set_cons_succ]
        refine wpAnyH_takeL (i := 6) (v := (.agg (ec B).toArray)) rfl (by kernel_rfl) (by kernel_rfl) (by kernel_rfl) (fun _ _ _ h => h) (by rfl) ?ht43 (by assumption) ?_
        case ht43 => intro w hSw; exact exec_load_at 24 _ rfl rfl (pc_y hSw) rfl Tryd.underlying24 (ie4 _)
        simp only [Act.put, List.setIfInBounds_toArray, List.set_cons_zero, List.set_cons_succ]
        refine wpAnyH_takeL (i := 7) (v := ?vt44) rfl (by kernel_rfl) (by kernel_rfl) (by kernel_rfl) (fun _ _ _ h => h) (by rfl) ?ht44 (by assumption) ?_
        case ht44 => intro w hSw; go_simp <;> with_reducible rfl
        simp only [Act.put, List.setIfInBounds_toArray, List.set_cons_zero, List.set_cons_succ]
        refine wpAnyH_takeL (i := 8) (v := (.agg (ec B).toArray)) rfl (by kernel_rfl) (by kernel_rfl) (by kernel_rfl) (fun _ _ _ h => h) (by rfl) ?ht45 (by assumption) ?_
        case ht45 => intro w hSw; exact exec_load_at 24 _ rfl rfl (pc_y hSw) rfl Tryd.underlying24 (ie4 _)
        simp only [Act.put, List.setIfInBounds_toArray, List.set_cons_zero, List.set_cons_succ]
        refine ready_threeL (i := 4) (j := 10) (k := 11) (by kernel_rfl) rfl rfl rfl (by rfl) (by rfl) (by rfl) (fun K hK => ?_) (fun K hK => ?_) (fun K hK => ?_)
        · go_simp
          refine (cn1 _ (hP.below h.bel)).mono ?_
          rintro _ wn ⟨rfl, hb⟩
          replace h := h.below hb
          clear hb
          refine hK.out _ _ (h.row (i := 0) rfl) (fun hHeld => ?_)
          clear hK K
          refine ready_threeL (i := 9) (j := 10) (k := 11) (by kernel_rfl) rfl rfl rfl (by rfl) (by rfl) (by rfl) (fun K hK => ?_) (fun K hK => ?_) (fun K hK => ?_)
          · go_simp
            refine (cn2 _ (hP.below h.bel)).mono ?_
            rintro _ wn ⟨rfl, hb⟩
            replace h := h.below hb
            clear hb
            refine hK.out _ _ (h.row (i := 0) rfl) (fun hHeld => ?_)
            clear hK K
            refine ready_twoL (i := 10) (j := 11) (by kernel_rfl) rfl rfl (by rfl) (by rfl) (fun K hK => ?_) (fun K hK => ?_)
            · refine wp_alloc_R 24 rfl (ec 0) z4w ?_
              obtain ⟨g3, hgq, hq⟩ := h.more 1 24 (ec 0)
              replace h : Fr w _ [(w.heap.size, 26, pc A B), (g3, 24, ec 0)] := hq
              rw [hgq]
              clear hgq hq
              refine hK.out _ _ (h.row (i := 0) rfl) (fun hHeld => ?_)
              clear hK K
              refine allReadyH_oneL (i := 11) (by kernel_rfl) rfl (by rfl) (fun K hK => ?_)
              refine wp_alloc_R 24 rfl (ec 0) z4w ?_
              obtain ⟨g4, hgq, hq⟩ := h.more 2 24 (ec 0)
              replace h : Fr w _ [(w.heap.size, 26, pc A B), (g3, 24, ec 0), (g4, 24, ec 0)] := hq
              rw [hgq]
              clear hgq hq
              refine hK.out _ _ (h.row (i := 0) rfl) (fun hHeld => ?_)
              clear hK K
              refine allReadyH_oneL (i := 12) (by kernel_rfl) rfl (by rfl) (fun K hK => ?_)
              refine wp_store_R 24 _ _ rfl _ (ec n1) rfl rfl (h.row (i := 1) rfl) (ie4 _) rfl (ec_all _) ?_
              intro wz q hg hz
              replace h : Fr w wz [(w.heap.size, 26, pc A B), (g3, 24, ec n1), (g4, 24, ec 0)] := h.put (i := 1) rfl q hg
              clear q hg hz
              refine hK.out _ _ (h.row (i := 0) rfl) (fun hHeld => ?_)
              clear hK K
              refine allReadyH_oneL (i := 13) (by kernel_rfl) rfl (by rfl) (fun K hK => ?_)
              refine wp_store_R 24 _ _ rfl _ (ec n2) rfl rfl (h.row (i := 2) rfl) (ie4 _) rfl (ec_all _) ?_
              intro wz q hg hz
              replace h : Fr w wz [(w.heap.size, 26, pc A B), (g3, 24, ec n1), (g4, 24, ec n2)] := h.put (i := 2) rfl q hg
              clear q hg hz
              refine hK.out _ _ (h.row (i := 0) rfl) (fun hHeld => ?_)
              clear hK K
              refine wpAnyH_done (by kernel_rfl) ?_ _
              refine NoPanic.normal ?_
              go_wp2
              go_meet
              case rel => exact ⟨_, _, rfl, rfl, h⟩
            · refine wp_alloc_R 24 rfl (ec 0) z4w ?_
              obtain ⟨g4, hgq, hq⟩ := h.more 1 24 (ec 0)
              replace h : Fr w _ [(w.heap.size, 26, pc A B), (g4, 24, ec 0)] := hq
              rw [hgq]
              clear hgq hq
              refine hK.out _ _ (h.row (i := 0) rfl) (fun hHeld => ?_)
              clear hK K
              refine allReadyH_oneL (i := 10) (by kernel_rfl) rfl (by rfl) (fun K hK => ?_)
              refine wp_alloc_R 24 rfl (ec 0) z4w ?_
              obtain ⟨g3, hgq, hq⟩ := h.more 1 24 (ec 0)
              replace h : Fr w _ [(w.heap.size, 26, pc A B), (g3, 24, ec 0), (g4, 24, ec 0)] := hq
              rw [hgq]
              clear hgq hq
              refine hK.out _ _ (h.row (i := 0) rfl) (fun hHeld => ?_)
              clear hK K
              refine allReadyH_oneL (i := 12) (by kernel_rfl) rfl (by rfl) (fun K hK => ?_)
              refine wp_store_R 24 _ _ rfl _ (ec n1) rfl rfl (h.row (i := 1) rfl) (ie4 _) rfl (ec_all _) ?_
              intro wz q hg hz
              replace h : Fr w wz [(w.heap.size, 26, pc A B), (g3, 24, ec n1), (g4, 24, ec 0)] := h.put (i := 1) rfl q hg
              clear q hg hz
              refine hK.out _ _ (h.row (i := 0) rfl) (fun hHeld => ?_)
              clear hK K
              refine allReadyH_oneL (i := 13) (by kernel_rfl) rfl (by rfl) (fun K hK => ?_)
              refine wp_store_R 24 _ _ rfl _ (ec n2) rfl rfl (h.row (i := 2) rfl) (ie4 _) rfl (ec_all _) ?_
              intro wz q hg hz
              replace h : Fr w wz [(w.heap.size, 26, pc A B), (g3, 24, ec n1), (g4, 24, ec n2)] := h.put (i := 2) rfl q hg
              clear q hg hz
              refine hK.out _ _ (h.row (i := 0) rfl) (fun hHeld => ?_)
              clear hK K
              refine wpAnyH_done (by kernel_rfl) ?_ _
              refine NoPanic.normal ?_
              go_wp2
              go_meet
              case rel => exact ⟨_, _, rfl, rfl, h⟩
          · refine wp_alloc_R 24 rfl (ec 0) z4w ?_
            obtain ⟨g3, hgq, hq⟩ := h.more 1 24 (ec 0)
            replace h : Fr w _ [(w.heap.size, 26, pc A B), (g3, 24, ec 0)] := hq
            rw [hgq]
            clear hgq hq
            refine hK.out _ _ (h.row (i := 0) rfl) (fun hHeld => ?_)
            clear hK K
            refine ready_twoL (i := 9) (j := 11) (by kernel_rfl) rfl rfl (by rfl) (by rfl) (fun K hK => ?_) (fun K hK => ?_)
            · go_simp
              refine (cn2 _ (hP.below h.bel)).mono ?_
              rintro _ wn ⟨rfl, hb⟩
              replace h := h.below hb
              clear hb
              refine hK.out _ _ (h.row (i := 0) rfl) (fun hHeld => ?_)
              clear hK K
              refine allReadyH_oneL (i := 11) (by kernel_rfl) rfl (by rfl) (fun K hK => ?_)
              refine wp_alloc_R 24 rfl (ec 0) z4w ?_
              obtain ⟨g4, hgq, hq⟩ := h.more 2 24 (ec 0)
              replace h : Fr w _ [(w.heap.size, 26, pc A B), (g3, 24, ec 0), (g4, 24, ec 0)] := hq
              rw [hgq]
              clear hgq hq
              refine hK.out _ _ (h.row (i := 0) rfl) (fun hHeld => ?_)
              clear hK K
              refine allReadyH_oneL (i := 12) (by kernel_rfl) rfl (by rfl) (fun K hK => ?_)
              refine wp_store_R 24 _ _ rfl _ (ec n1) rfl rfl (h.row (i := 1) rfl) (ie4 _) rfl (ec_all _) ?_
              intro wz q hg hz
              replace h : Fr w wz [(w.heap.size, 26, pc A B), (g3, 24, ec n1), (g4, 24, ec 0)] := h.put (i := 1) rfl q hg
              clear q hg hz
              refine hK.out _ _ (h.row (i := 0) rfl) (fun hHeld => ?_)
              clear hK K
              refine allReadyH_oneL (i := 13) (by kernel_rfl) rfl (by rfl) (fun K hK => ?_)
              refine wp_store_R 24 _ _ rfl _ (ec n2) rfl rfl (h.row (i := 2) rfl) (ie4 _) rfl (ec_all _) ?_
              intro wz q hg hz
              replace h : Fr w wz [(w.heap.size, 26, pc A B), (g3, 24, ec n1), (g4, 24, ec n2)] := h.put (i := 2) rfl q hg
              clear q hg hz
              refine hK.out _ _ (h.row (i := 0) rfl) (fun hHeld => ?_)
              clear hK K
              refine wpAnyH_done (by kernel_rfl) ?_ _
              refine NoPanic.normal ?_
              go_wp2
              go_meet
              case rel => exact ⟨_, _, rfl, rfl, h⟩
            · refine wp_alloc_R 24 rfl (ec 0) z4w ?_
              obtain ⟨g4, hgq, hq⟩ := h.more 2 24 (ec 0)
              replace h : Fr w _ [(w.heap.size, 26, pc A B), (g3, 24, ec 0), (g4, 24, ec 0)] := hq
              rw [hgq]
              clear hgq hq
              refine hK.out _ _ (h.row (i := 0) rfl) (fun hHeld => ?_)
              clear hK K
              refine allReadyH_oneL (i := 9) (by kernel_rfl) rfl (by rfl) (fun K hK => ?_)
              go_simp
              refine (cn2 _ (hP.below h.bel)).mono ?_
              rintro _ wn ⟨rfl, hb⟩
              replace h := h.below hb
              clear hb
              refine hK.out _ _ (h.row (i := 0) rfl) (fun hHeld => ?_)
              clear hK K
              refine allReadyH_oneL (i := 12) (by kernel_rfl) rfl (by rfl) (fun K hK => ?_)
              refine wp_store_R 24 _ _ rfl _ (ec n1) rfl rfl (h.row (i := 1) rfl) (ie4 _) rfl (ec_all _) ?_
              intro wz q hg hz
              replace h : Fr w wz [(w.heap.size, 26, pc A B), (g3, 24, ec n1), (g4, 24, ec 0)] := h.put (i := 1) rfl q hg
              clear q hg hz
              refine hK.out _ _ (h.row (i := 0) rfl) (fun hHeld => ?_)
              clear hK K
              refine allReadyH_oneL (i := 13) (by kernel_rfl) rfl (by rfl) (fun K hK => ?_)
              refine wp_store_R 24 _ _ rfl _ (ec n2) rfl rfl (h.row (i := 2) rfl) (ie4 _) rfl (ec_all _) ?_
              intro wz q hg hz
              replace h : Fr w wz [(w.heap.size, 26, pc A B), (g3, 24, ec n1), (g4, 24, ec n2)] := h.put (i := 2) rfl q hg
              clear q hg hz
              refine hK.out _ _ (h.row (i := 0) rfl) (fun hHeld => ?_)
              clear hK K
              refine wpAnyH_done (by kernel_rfl) ?_ _
              refine NoPanic.normal ?_
              go_wp2
              go_meet
              case rel => exact ⟨_, _, rfl, rfl, h⟩
          · refine wp_alloc_R 24 rfl (ec 0) z4w ?_
            obtain ⟨g4, hgq, hq⟩ := h.more 1 24 (ec 0)
            replace h : Fr w _ [(w.heap.size, 26, pc A B), (g4, 24, ec 0)] := hq
            rw [hgq]
            clear hgq hq
            refine hK.out _ _ (h.row (i := 0) rfl) (fun hHeld => ?_)
            clear hK K
            refine ready_twoL (i := 9) (j := 10) (by kernel_rfl) rfl rfl (by rfl) (by rfl) (fun K hK => ?_) (fun K hK => ?_)
            · go_simp
              refine (cn2 _ (hP.below h.bel)).mono ?_
              rintro _ wn ⟨rfl, hb⟩
              replace h := h.below hb
              clear hb
              refine hK.out _ _ (h.row (i := 0) rfl) (fun hHeld => ?_)
              clear hK K
              refine allReadyH_oneL (i := 10) (by kernel_rfl) rfl (by rfl) (fun K hK => ?_)
              refine wp_alloc_R 24 rfl (ec 0) z4w ?_
              obtain ⟨g3, hgq, hq⟩ := h.more 1 24 (ec 0)
              replace h : Fr w _ [(w.heap.size, 26, pc A B), (g3, 24, ec 0), (g4, 24, ec 0)] := hq
              rw [hgq]
              clear hgq hq
              refine hK.out _ _ (h.row (i := 0) rfl) (fun hHeld => ?_)
              clear hK K
              refine allReadyH_oneL (i := 12) (by kernel_rfl) rfl (by rfl) (fun K hK => ?_)
              refine wp_store_R 24 _ _ rfl _ (ec n1) rfl rfl (h.row (i := 1) rfl) (ie4 _) rfl (ec_all _) ?_
              intro wz q hg hz
              replace h : Fr w wz [(w.heap.size, 26, pc A B), (g3, 24, ec n1), (g4, 24, ec 0)] := h.put (i := 1) rfl q hg
              clear q hg hz
              refine hK.out _ _ (h.row (i := 0) rfl) (fun hHeld => ?_)
              clear hK K
              refine allReadyH_oneL (i := 13) (by kernel_rfl) rfl (by rfl) (fun K hK => ?_)
              refine wp_store_R 24 _ _ rfl _ (ec n2) rfl rfl (h.row (i := 2) rfl) (ie4 _) rfl (ec_all _) ?_
              intro wz q hg hz
              replace h : Fr w wz [(w.heap.size, 26, pc A B), (g3, 24, ec n1), (g4, 24, ec n2)] := h.put (i := 2) rfl q hg
              clear q hg hz
              refine hK.out _ _ (h.row (i := 0) rfl) (fun hHeld => ?_)
              clear hK K
              refine wpAnyH_done (by kernel_rfl) ?_ _
              refine NoPanic.normal ?_
              go_wp2
              go_meet
              case rel => exact ⟨_, _, rfl, rfl, h⟩
            · refine wp_alloc_R 24 rfl (ec 0) z4w ?_
              obtain ⟨g3, hgq, hq⟩ := h.more 1 24 (ec 0)
              replace h : Fr w _ [(w.heap.size, 26, pc A B), (g3, 24, ec 0), (g4, 24, ec 0)] := hq
              rw [hgq]
              clear hgq hq
              refine hK.out _ _ (h.row (i := 0) rfl) (fun hHeld => ?_)
              clear hK K
              refine allReadyH_oneL (i := 9) (by kernel_rfl) rfl (by rfl) (fun K hK => ?_)
              go_simp
              refine (cn2 _ (hP.below h.bel)).mono ?_
              rintro _ wn ⟨rfl, hb⟩
              replace h := h.below hb
              clear hb
              refine hK.out _ _ (h.row (i := 0) rfl) (fun hHeld => ?_)
              clear hK K
              refine allReadyH_oneL (i := 12) (by kernel_rfl) rfl (by rfl) (fun K hK => ?_)
              refine wp_store_R 24 _ _ rfl _ (ec n1) rfl rfl (h.row (i := 1) rfl) (ie4 _) rfl (ec_all _) ?_
              intro wz q hg hz
              replace h : Fr w wz [(w.heap.size, 26, pc A B), (g3, 24, ec n1), (g4, 24, ec 0)] := h.put (i := 1) rfl q hg
              clear q hg hz
              refine hK.out _ _ (h.row (i := 0) rfl) (fun hHeld => ?_)
              clear hK K
              refine allReadyH_oneL (i := 13) (by kernel_rfl) rfl (by rfl) (fun K hK => ?_)
              refine wp_store_R 24 _ _ rfl _ (ec n2) rfl rfl (h.row (i := 2) rfl) (ie4 _) rfl (ec_all _) ?_
              intro wz q hg hz
              replace h : Fr w wz [(w.heap.size, 26, pc A B), (g3, 24, ec n1), (g4, 24, ec n2)] := h.put (i := 2) rfl q hg
              clear q hg hz
              refine hK.out _ _ (h.row (i := 0) rfl) (fun hHeld => ?_)
              clear hK K
              refine wpAnyH_done (by kernel_rfl) ?_ _
              refine NoPanic.normal ?_
              go_wp2
              go_meet
              case rel => exact ⟨_, _, rfl, rfl, h⟩
        · refine wp_alloc_R 24 rfl (ec 0) z4w ?_
          obtain ⟨g3, hgq, hq⟩ := h.more 1 24 (ec 0)
          replace h : Fr w _ [(w.heap.size, 26, pc A B), (g3, 24, ec 0)] := hq
          rw [hgq]
          clear hgq hq
          refine hK.out _ _ (h.row (i := 0) rfl) (fun hHeld => ?_)
          clear hK K
          refine ready_twoL (i := 4) (j := 11) (by kernel_rfl) rfl rfl (by rfl) (by rfl) (fun K hK => ?_) (fun K hK => ?_)
          · go_simp
            refine (cn1 _ (hP.below h.bel)).mono ?_
            rintro _ wn ⟨rfl, hb⟩
            replace h := h.below hb
            clear hb
            refine hK.out _ _ (h.row (i := 0) rfl) (fun hHeld => ?_)
            clear hK K
            refine ready_twoL (i := 9) (j := 11) (by kernel_rfl) rfl rfl (by rfl) (by rfl) (fun K hK => ?_) (fun K hK => ?_)
            · go_simp
              refine (cn2 _ (hP.below h.bel)).mono ?_
              rintro _ wn ⟨rfl, hb⟩
              replace h := h.below hb
              clear hb
              refine hK.out _ _ (h.row (i := 0) rfl) (fun hHeld => ?_)
              clear hK K
              refine allReadyH_oneL (i := 11) (by kernel_rfl) rfl (by rfl) (fun K hK => ?_)
              refine wp_alloc_R 24 rfl (ec 0) z4w ?_
              obtain ⟨g4, hgq, hq⟩ := h.more 2 24 (ec 0)
              replace h : Fr w _ [(w.heap.size, 26, pc A B), (g3, 24, ec 0), (g4, 24, ec 0)] := hq
              rw [hgq]
              clear hgq hq
              refine hK.out _ _ (h.row (i := 0) rfl) (fun hHeld => ?_)
              clear hK K
              refine allReadyH_oneL (i := 12) (by kernel_rfl) rfl (by rfl) (fun K hK => ?_)
              refine wp_store_R 24 _ _ rfl _ (ec n1) rfl rfl (h.row (i := 1) rfl) (ie4 _) rfl (ec_all _) ?_
              intro wz q hg hz
              replace h : Fr w wz [(w.heap.size, 26, pc A B), (g3, 24, ec n1), (g4, 24, ec 0)] := h.put (i := 1) rfl q hg
              clear q hg hz
              refine hK.out _ _ (h.row (i := 0) rfl) (fun hHeld => ?_)
              clear hK K
              refine allReadyH_oneL (i := 13) (by kernel_rfl) rfl (by rfl) (fun K hK => ?_)
              refine wp_store_R 24 _ _ rfl _ (ec n2) rfl rfl (h.row (i := 2) rfl) (ie4 _) rfl (ec_all _) ?_
              intro wz q hg hz
              replace h : Fr w wz [(w.heap.size, 26, pc A B), (g3, 24, ec n1), (g4, 24, ec n2)] := h.put (i := 2) rfl q hg
              clear q hg hz
              refine hK.out _ _ (h.row (i := 0) rfl) (fun hHeld => ?_)
              clear hK K
              refine wpAnyH_done (by kernel_rfl) ?_ _
              refine NoPanic.normal ?_
              go_wp2
              go_meet
              case rel => exact ⟨_, _, rfl, rfl, h⟩
            · refine wp_alloc_R 24 rfl (ec 0) z4w ?_
              obtain ⟨g4, hgq, hq⟩ := h.more 2 24 (ec 0)
              replace h : Fr w _ [(w.heap.size, 26, pc A B), (g3, 24, ec 0), (g4, 24, ec 0)] := hq
              rw [hgq]
              clear hgq hq
              refine hK.out _ _ (h.row (i := 0) rfl) (fun hHeld => ?_)
              clear hK K
              refine allReadyH_oneL (i := 9) (by kernel_rfl) rfl (by rfl) (fun K hK => ?_)
              go_simp
              refine (cn2 _ (hP.below h.bel)).mono ?_
              rintro _ wn ⟨rfl, hb⟩
              replace h := h.below hb
              clear hb
              refine hK.out _ _ (h.row (i := 0) rfl) (fun hHeld => ?_)
              clear hK K
              refine allReadyH_oneL (i := 12) (by kernel_rfl) rfl (by rfl) (fun K hK => ?_)
              refine wp_store_R 24 _ _ rfl _ (ec n1) rfl rfl (h.row (i := 1) rfl) (ie4 _) rfl (ec_all _) ?_
              intro wz q hg hz
              replace h : Fr w wz [(w.heap.size, 26, pc A B), (g3, 24, ec n1), (g4, 24, ec 0)] := h.put (i := 1) rfl q hg
              clear q hg hz
              refine hK.out _ _ (h.row (i := 0) rfl) (fun hHeld => ?_)
              clear hK K
              refine allReadyH_oneL (i := 13) (by kernel_rfl) rfl (by rfl) (fun K hK => ?_)
              refine wp_store_R 24 _ _ rfl _ (ec n2) rfl rfl (h.row (i := 2) rfl) (ie4 _) rfl (ec_all _) ?_
              intro wz q hg hz
              replace h : Fr w wz [(w.heap.size, 26, pc A B), (g3, 24, ec n1), (g4, 24, ec n2)] := h.put (i := 2) rfl q hg
              clear q hg hz
              refine hK.out _ _ (h.row (i := 0) rfl) (fun hHeld => ?_)
              clear hK K
              refine wpAnyH_done (by kernel_rfl) ?_ _
              refine NoPanic.normal ?_
              go_wp2
              go_meet
              case rel => exact ⟨_, _, rfl, rfl, h⟩
          · refine wp_alloc_R 24 rfl (ec 0) z4w ?_
            obtain ⟨g4, hgq, hq⟩ := h.more 2 24 (ec 0)
            replace h : Fr w _ [(w.heap.size, 26, pc A B), (g3, 24, ec 0), (g4, 24, ec 0)] := hq
            rw [hgq]
            clear hgq hq
            refine hK.out _ _ (h.row (i := 0) rfl) (fun hHeld => ?_)
            clear hK K
            refine allReadyH_oneL (i := 4) (by kernel_rfl) rfl (by rfl) (fun K hK => ?_)
            go_simp
            refine (cn1 _ (hP.below h.bel)).mono ?_
            rintro _ wn ⟨rfl, hb⟩
            replace h := h.below hb
            clear hb
            refine hK.out _ _ (h.row (i := 0) rfl) (fun hHeld => ?_)
            clear hK K
            refine allReadyH_oneL (i := 9) (by kernel_rfl) rfl (by rfl) (fun K hK => ?_)
            go_simp
            refine (cn2 _ (hP.below h.bel)).mono ?_
            rintro _ wn ⟨rfl, hb⟩
            replace h := h.below hb
            clear hb
            refine hK.out _ _ (h.row (i := 0) rfl) (fun hHeld => ?_)
            clear hK K
            refine allReadyH_oneL (i := 12) (by kernel_rfl) rfl (by rfl) (fun K hK => ?_)
            refine wp_store_R 24 _ _ rfl _ (ec n1) rfl rfl (h.row (i := 1) rfl) (ie4 _) rfl (ec_all _) ?_
            intro wz q hg hz
            replace h : Fr w wz [(w.heap.size, 26, pc A B), (g3, 24, ec n1), (g4, 24, ec 0)] := h.put (i := 1) rfl q hg
            clear q hg hz
            refine hK.out _ _ (h.row (i := 0) rfl) (fun hHeld => ?_)
            clear hK K
            refine allReadyH_oneL (i := 13) (by kernel_rfl) rfl (by rfl) (fun K hK => ?_)
            refine wp_store_R 24 _ _ rfl _ (ec n2) rfl rfl (h.row (i := 2) rfl) (ie4 _) rfl (ec_all _) ?_
            intro wz q hg hz
            replace h : Fr w wz [(w.heap.size, 26, pc A B), (g3, 24, ec n1), (g4, 24, ec n2)] := h.put (i := 2) rfl q hg
            clear q hg hz
            refine hK.out _ _ (h.row (i := 0) rfl) (fun hHeld => ?_)
            clear hK K
            refine wpAnyH_done (by kernel_rfl) ?_ _
            refine NoPanic.normal ?_
            go_wp2
            go_meet
            case rel => exact ⟨_, _, rfl, rfl, h⟩
        · refine wp_alloc_R 24 rfl (ec 0) z4w ?_
          obtain ⟨g4, hgq, hq⟩ := h.more 1 24 (ec 0)
          replace h : Fr w _ [(w.heap.size, 26, pc A B), (g4, 24, ec 0)] := hq
          rw [hgq]
          clear hgq hq
          refine hK.out _ _ (h.row (i := 0) rfl) (fun hHeld => ?_)
          clear hK K
          refine ready_twoL (i := 4) (j := 10) (by kernel_rfl) rfl rfl (by rfl) (by rfl) (fun K hK => ?_) (fun K hK => ?_)
          · go_simp
            refine (cn1 _ (hP.below h.bel)).mono ?_
            rintro _ wn ⟨rfl, hb⟩
            replace h := h.below hb
            clear hb
            refine hK.out _ _ (h.row (i := 0) rfl) (fun hHeld => ?_)
            clear hK K
            refine ready_twoL (i := 9) (j := 10) (by kernel_rfl) rfl rfl (by rfl) (by rfl) (fun K hK => ?_) (fun K hK => ?_)
            · go_simp
              refine (cn2 _ (hP.below h.bel)).mono ?_
              rintro _ wn ⟨rfl, hb⟩
              replace h := h.below hb
              clear hb
              refine hK.out _ _ (h.row (i := 0) rfl) (fun hHeld => ?_)
              clear hK K
              refine allReadyH_oneL (i := 10) (by kernel_rfl) rfl (by rfl) (fun K hK => ?_)
              refine wp_alloc_R 24 rfl (ec 0) z4w ?_
              obtain ⟨g3, hgq, hq⟩ := h.more 1 24 (ec 0)
              replace h : Fr w _ [(w.heap.size, 26, pc A B), (g3, 24, ec 0), (g4, 24, ec 0)] := hq
              rw [hgq]
              clear hgq hq
              refine hK.out _ _ (h.row (i := 0) rfl) (fun hHeld => ?_)
              clear hK K
              refine allReadyH_oneL (i := 12) (by kernel_rfl) rfl (by rfl) (fun K hK => ?_)
              refine wp_store_R 24 _ _ rfl _ (ec n1) rfl rfl (h.row (i := 1) rfl) (ie4 _) rfl (ec_all _) ?_
              intro wz q hg hz
              replace h : Fr w wz [(w.heap.size, 26, pc A B), (g3, 24, ec n1), (g4, 24, ec 0)] := h.put (i := 1) rfl q hg
              clear q hg hz
              refine hK.out _ _ (h.row (i := 0) rfl) (fun hHeld => ?_)
              clear hK K
              refine allReadyH_oneL (i := 13) (by kernel_rfl) rfl (by rfl) (fun K hK => ?_)
              refine wp_store_R 24 _ _ rfl _ (ec n2) rfl rfl (h.row (i := 2) rfl) (ie4 _) rfl (ec_all _) ?_
              intro wz q hg hz
              replace h : Fr w wz [(w.heap.size, 26, pc A B), (g3, 24, ec n1), (g4, 24, ec n2)] := h.put (i := 2) rfl q hg
              clear q hg hz
              refine hK.out _ _ (h.row (i := 0) rfl) (fun hHeld => ?_)
              clear hK K
              refine wpAnyH_done (by kernel_rfl) ?_ _
              refine NoPanic.normal ?_
              go_wp2
              go_meet
              case rel => exact ⟨_, _, rfl, rfl, h⟩
            · refine wp_alloc_R 24 rfl (ec 0) z4w ?_
              obtain ⟨g3, hgq, hq⟩ := h.more 1 24 (ec 0)
              replace h : Fr w _ [(w.heap.size, 26, pc A B), (g3, 24, ec 0), (g4, 24, ec 0)] := hq
              rw [hgq]
              clear hgq hq
              refine hK.out _ _ (h.row (i := 0) rfl) (fun hHeld => ?_)
              clear hK K
              refine allReadyH_oneL (i := 9) (by kernel_rfl) rfl (by rfl) (fun K hK => ?_)
              go_simp
              refine (cn2 _ (hP.below h.bel)).mono ?_
              rintro _ wn ⟨rfl, hb⟩
              replace h := h.below hb
              clear hb
              refine hK.out _ _ (h.row (i := 0) rfl) (fun hHeld => ?_)
              clear hK K
              refine allReadyH_oneL (i := 12) (by kernel_rfl) rfl (by rfl) (fun K hK => ?_)
              refine wp_store_R 24 _ _ rfl _ (ec n1) rfl rfl (h.row (i := 1) rfl) (ie4 _) rfl (ec_all _) ?_
              intro wz q hg hz
              replace h : Fr w wz [(w.heap.size, 26, pc A B), (g3, 24, ec n1), (g4, 24, ec 0)] := h.put (i := 1) rfl q hg
              clear q hg hz
              refine hK.out _ _ (h.row (i := 0) rfl) (fun hHeld => ?_)
              clear hK K
              refine allReadyH_oneL (i := 13) (by kernel_rfl) rfl (by rfl) (fun K hK => ?_)
              refine wp_store_R 24 _ _ rfl _ (ec n2) rfl rfl (h.row (i := 2) rfl) (ie4 _) rfl (ec_all _) ?_
              intro wz q hg hz
              replace h : Fr w wz [(w.heap.size, 26, pc A B), (g3, 24, ec n1), (g4, 24, ec n2)] := h.put (i := 2) rfl q hg
              clear q hg hz
              refine hK.out _ _ (h.row (i := 0) rfl) (fun hHeld => ?_)
              clear hK K
              refine wpAnyH_done (by kernel_rfl) ?_ _
              refine NoPanic.normal ?_
              go_wp2
              go_meet
              case rel => exact ⟨_, _, rfl, rfl, h⟩
          · refine wp_alloc_R 24 rfl (ec 0) z4w ?_
            obtain ⟨g3, hgq, hq⟩ := h.more 1 24 (ec 0)
            replace h : Fr w _ [(w.heap.size, 26, pc A B), (g3, 24, ec 0), (g4, 24, ec 0)] := hq
            rw [hgq]
            clear hgq hq
            refine hK.out _ _ (h.row (i := 0) rfl) (fun hHeld => ?_)
            clear hK K
            refine allReadyH_oneL (i := 4) (by kernel_rfl) rfl (by rfl) (fun K hK => ?_)
            go_simp
            refine (cn1 _ (hP.below h.bel)).mono ?_
            rintro _ wn ⟨rfl, hb⟩
            replace h := h.below hb
            clear hb
            refine hK.out _ _ (h.row (i := 0) rfl) (fun hHeld => ?_)
            clear hK K
            refine allReadyH_oneL (i := 9) (by kernel_rfl) rfl (by rfl) (fun K hK => ?_)
            go_simp
            refine (cn2 _ (hP.below h.bel)).mono ?_
            rintro _ wn ⟨rfl, hb⟩
            replace h := h.below hb
            clear hb
            refine hK.out _ _ (h.row (i := 0) rfl) (fun hHeld => ?_)
            clear hK K
            refine allReadyH_oneL (i := 12) (by kernel_rfl) rfl (by rfl) (fun K hK => ?_)
            refine wp_store_R 24 _ _ rfl _ (ec n1) rfl rfl (h.row (i := 1) rfl) (ie4 _) rfl (ec_all _) ?_
            intro wz q hg hz
            replace h : Fr w wz [(w.heap.size, 26, pc A B), (g3, 24, ec n1), (g4, 24, ec 0)] := h.put (i := 1) rfl q hg
            clear q hg hz
            refine hK.out _ _ (h.row (i := 0) rfl) (fun hHeld => ?_)
            clear hK K
            refine allReadyH_oneL (i := 13) (by kernel_rfl) rfl (by rfl) (fun K hK => ?_)
            refine wp_store_R 24 _ _ rfl _ (ec n2) rfl rfl (h.row (i := 2) rfl) (ie4 _) rfl (ec_all _) ?_
            intro wz q hg hz
            replace h : Fr w wz [(w.heap.size, 26, pc A B), (g3, 24, ec n1), (g4, 24, ec n2)] := h.put (i := 2) rfl q hg
            clear q hg hz
            refine hK.out _ _ (h.row (i := 0) rfl) (fun hHeld => ?_)
            clear hK K
            refine wpAnyH_done (by kernel_rfl) ?_ _
            refine NoPanic.normal ?_
            go_wp2
            go_meet
            case rel => exact ⟨_, _, rfl, rfl, h⟩
      case rest =>
        clear h
        obtain ⟨g3, g4, rfl, rfl, h⟩ := hcut
        go_upto_region 4 with fail
        try simp only [Act.put, List.setIfInBounds_toArray, List.set_cons_zero, List.set_cons_succ]
        replace h := h.drew
        refine wp_region_noPanic ?_
        refine wp_region_held_drew (S := fun w' => Row w' g4 24 (ec n2) ∧ Row w' g3 24 (ec n1) ∧ GlobC w' 0 (ec Dn)) (by kernel_rfl) ⟨h.row (i := 2) rfl, h.row (i := 1) rfl, (hE.below h.bel).d.c⟩ (fun hHeld => ?_)
        refine wpAnyH_takeL (i := 0) (v := (.agg (ec n2).toArray)) rfl (by kernel_rfl) (by kernel_rfl) (by kernel_rfl) (fun _ _ _ h => h) (by rfl) ?ht46 (by assumption) ?_
        case ht46 => intro w hSw; exact exec_load_W 24 _ rfl rfl hSw.1 Tryd.underlying24 rfl (ie4 _)
        simp only [Act.put, List.setIfInBounds_toArray, List.set_cons_zero, List.set_cons_succ]
        refine wpAnyH_takeL (i := 1) (v := (.agg (ec n1).toArray)) rfl (by kernel_rfl) (by kernel_rfl) (by kernel_rfl) (fun _ _ _ h => h) (by rfl) ?ht47 (by assumption) ?_
        case ht47 => intro w hSw; exact exec_load_W 24 _ rfl rfl hSw.2.1 Tryd.underlying24 rfl (ie4 _)
        simp only [Act.put, List.setIfInBounds_toArray, List.set_cons_zero, List.set_cons_succ]
        refine wpAnyH_takeL (i := 4) (v := (.agg (ec Dn).toArray)) rfl (by kernel_rfl) (by kernel_rfl) (by kernel_rfl) (fun _ _ _ h => h) (by rfl) ?ht48 (by assumption) ?_
        case ht48 => intro w hSw; exact exec_load_G 24 _ rfl rfl hSw.2.2 Tryd.underlying24 rfl (ie4 _)
        simp only [Act.put, List.setIfInBounds_toArray, List.set_cons_zero, List.set_cons_succ]
        refine wpAnyH_takeL (i := 5) (v := (.agg (ec n1).toArray)) rfl (by kernel_rfl) (by kernel_rfl) (by kernel_rfl) (fun _ _ _ h => h) (by rfl) ?ht49 (by assumption) ?_
        case ht49 => intro w hSw; exact exec_load_W 24 _ rfl rfl hSw.2.1 Tryd.underlying24 rfl (ie4 _)
        simp only [Act.put, List.setIfInBounds_toArray, List.set_cons_zero, List.set_cons_succ]
        refine wpAnyH_takeL (i := 6) (v := (.agg (ec n2).toArray)) rfl (by kernel_rfl) (by kernel_rfl) (by kernel_rfl) (fun _ _ _ h => h) (by rfl) ?ht50 (by assumption) ?_
        case ht50 => intro w hSw; exact exec_load_W 24 _ rfl rfl hSw.1 Tryd.underlying24 rfl (ie4 _)
        simp only [Act.put, List.setIfInBounds_toArray, List.set_cons_zero, List.set_cons_succ]
        refine allReadyH_oneL (i := 2) (by kernel_rfl) rfl (by rfl) (fun K hK => ?_)
        go_simp
        refine (cn3 _ (hP.below h.bel)).mono ?_
        rintro _ wn ⟨rfl, hb⟩
        replace h := h.below hb
        clear hb
        refine hK.out _ _ ⟨h.row (i := 2) rfl, h.row (i := 1) rfl, (hE.below h.bel).d.c⟩ (fun hHeld => ?_)
        clear hK K
        refine allReadyH_oneL (i := 3) (by kernel_rfl) rfl (by rfl) (fun K hK => ?_)
        go_simp
        refine (from1 _).mono ?_
        rintro _ wn ⟨rfl, hb⟩
        replace h := h.below hb
        clear hb
        refine hK.out _ _ ⟨h.row (i := 2) rfl, h.row (i := 1) rfl, (hE.below h.bel).d.c⟩ (fun hHeld => ?_)
        clear hK K
        refine allReadyH_oneL (i := 7) (by kernel_rfl) rfl (by rfl) (fun K hK => ?_)
        go_simp
        refine (cn4 _ (hP.below h.bel)).mono ?_
        rintro _ wn ⟨rfl, hb⟩
        replace h := h.below hb
        clear hb
        refine hK.out _ _ ⟨h.row (i := 2) rfl, h.row (i := 1) rfl, (hE.below h.bel).d.c⟩ (fun hHeld => ?_)
        clear hK K
        refine allReadyH_oneL (i := 8) (by kernel_rfl) rfl (by rfl) (fun K hK => ?_)
        go_simp
        refine (cn5 _ (hP.below h.bel)).mono ?_
        rintro _ wn ⟨rfl, hb⟩
        replace h := h.below hb
        clear hb
        refine hK.out _ _ ⟨h.row (i := 2) rfl, h.row (i := 1) rfl, (hE.below h.bel).d.c⟩ (fun hHeld => ?_)
        clear hK K
        refine allReadyH_oneL (i := 9) (by kernel_rfl) rfl (by rfl) (fun K hK => ?_)
        go_simp
        refine (cn6 _ (hP.below h.bel)).mono ?_
        rintro _ wn ⟨rfl, hb⟩
        replace h := h.below hb
        clear hb
        refine hK.out _ _ ⟨h.row (i := 2) rfl, h.row (i := 1) rfl, (hE.below h.bel).d.c⟩ (fun hHeld => ?_)
        clear hK K
        refine wpAnyH_takeL (i := 10) (v := ?vt51) rfl (by kernel_rfl) (by kernel_rfl) (by kernel_rfl) (fun _ _ _ h => h) (by rfl) ?ht51 (by assumption) ?_
        case ht51 => intro w hSw; go_simp <;> with_reducible rfl
        simp only [Act.put, List.setIfInBounds_toArray, List.set_cons_zero, List.set_cons_succ]
        refine wpAnyH_takeL (i := 11) (v := ?vt52) rfl (by kernel_rfl) (by kernel_rfl) (by kernel_rfl) (fun _ _ _ h => h) (by rfl) ?ht52 (by assumption) ?_
        case ht52 => intro w hSw; go_simp <;> with_reducible rfl
        simp only [Act.put, List.setIfInBounds_toArray, List.set_cons_zero, List.set_cons_succ]
        refine wpAnyH_done (by kernel_rfl) ?_ _
        refine NoPanic.normal ?_
        go_wp2
        go_ret
        exact ⟨by rw [HV.out]; rfl, h.bel⟩
theorem counted_any (A B : Nat) (lA : A < 115792089237316195423570985008687907853269984665640564039457584007913129639936) (lB : B < 115792089237316195423570985008687907853269984665640564039457584007913129639936) (w : World) (hE : TE w) : Calls Tryd.prog 41 #[.agg (pc A B).toArray] w fun e w' => e = .returned (.agg (pv (ownP A B)).toArray) ∧ Below w.heap.size w w' := by
  obtain ⟨w2, h2, h⟩ := Fr.two w 26 26 (pc A B) (pc 0 0)
  have c1 := on_any A B lA lB
  have HV := Away.mk (pv_own A B)
  obtain ⟨b, hb⟩ : ∃ b, onB A B = b := ⟨_, rfl⟩
  rw [hb] at c1 HV
  clear hb
  go_enter Tryd.func41, Tryd.ntmps41
  go_upto_region 1 with (refine wpList_alloc_row rfl 26 rfl _ zPw ?_)
  try simp only [Act.put, List.setIfInBounds_toArray, List.set_cons_zero, List.set_cons_succ, alloc_size, h2]
  clear h2
  go_wp2_with (refine wpList_load_row rfl 26 _ rfl _ rfl _ _ _ _ (h.row (i := 0) rfl) Tryd.underlying26 rfl (iP _ _) ?_)
  refine (c1 _ (hE.below h.bel)).mono ?_
  rintro _ wn ⟨rfl, hb⟩
  replace h := h.below hb
  clear hb c1
  cases b
  · go_wp2_with fail
    refine (zero_el _).mono ?_
    rintro _ wn ⟨rfl, hb⟩
    replace h := h.below hb
    clear hb
    go_wp2_with (refine wpList_store_R rfl 26 _ _ rfl _ (pc 0 1) rfl rfl (h.row (i := 1) rfl) (iP _ _) rfl (pc_all _ _) ?_; intro wz q hg hz)
    replace h : Fr w wz [(w.heap.size, 26, pc A B), (w.heap.size + 1, 26, pc 0 1)] := h.put (i := 1) rfl q hg
    exact result_row Tryd.results41 rfl (h.row (i := 1) rfl) Tryd.underlying26 rfl (iP _ _) rfl ⟨by rw [HV.out]; rfl, h.bel⟩
  · go_wp2_with (first | refine wpList_load_row rfl 26 _ rfl _ rfl _ _ _ _ (h.row (i := 0) rfl) Tryd.underlying26 rfl (iP _ _) ?_ | (refine wpList_store_R rfl 26 _ _ rfl _ (pc A B) rfl rfl (h.row (i := 1) rfl) (iP _ _) rfl (pc_all _ _) ?_; intro wz q hg hz))
    replace h : Fr w wz [(w.heap.size, 26, pc A B), (w.heap.size + 1, 26, pc A B)] := h.put (i := 1) rfl q hg
    exact result_row Tryd.results41 rfl (h.row (i := 1) rfl) Tryd.underlying26 rfl (iP _ _) rfl ⟨by rw [HV.out]; rfl, h.bel⟩
/-- counted, its answer's numbers by letters. -/
theorem counted_let (A B : Nat) (lA : A < 115792089237316195423570985008687907853269984665640564039457584007913129639936) (lB : B < 115792089237316195423570985008687907853269984665640564039457584007913129639936) : ∃ X Y, (ownP A B).x.val = X ∧ (ownP A B).y.val = Y ∧ X < 115792089237316195423570985008687907853269984665640564039457584007913129639936 ∧ Y < 115792089237316195423570985008687907853269984665640564039457584007913129639936 ∧ z X = (ownP A B).x ∧ z Y = (ownP A B).y ∧ ∀ (w : World), TE w → Calls Tryd.prog 41 #[.agg (pc A B).toArray] w fun e w' => e = .returned (.agg (pc X Y).toArray) ∧ Below w.heap.size w w' :=
  ⟨_, _, rfl, rfl, ptx_lt _, pty_lt _, z_of _, z_of _, fun w hE => counted_any A B lA lB w hE⟩
end Go.Proofs.YthjlbcbkllaicaaDoor.F
