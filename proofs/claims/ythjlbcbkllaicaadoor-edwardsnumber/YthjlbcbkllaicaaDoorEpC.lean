/-
  The program's point, Add, Neg, squareOfX; over this seat's translation. Conditions: each as it says.
-/
import Derived.Test.YthjlbcbkllaicaaDoorEpB
namespace Go.Proofs.YthjlbcbkllaicaaDoor.F
open Go.RowKit
set_option linter.unusedVariables false
set_option maxRecDepth 10000

open E (z z_val z_same z_add z_mul z_sub z_inv z_mod z_of dd Pt padd pneg pmul iv ax ay Sc)
set_option maxHeartbeats 1000000 in
theorem point_any (A B M N : Nat) (lA : A < 115792089237316195423570985008687907853269984665640564039457584007913129639936) (lB : B < 115792089237316195423570985008687907853269984665640564039457584007913129639936) (lM : M < 115792089237316195423570985008687907853269984665640564039457584007913129639936) (lN : N < 115792089237316195423570985008687907853269984665640564039457584007913129639936) (p : Pt) (h1 : Sc p (z A) (z B) (z M) (z N)) (w : World) (hI : TI w) : Calls Tryd.prog 50 #[.agg (sc A B M N).toArray] w fun e w' => e = .returned (.agg (pv p).toArray) ∧ Below w.heap.size w w' := by
  obtain ⟨w2, h2, h⟩ := Fr.two w 52 26 (sc A B M N) (pc 0 0)
  have hP := hI.e.p
  obtain ⟨n1, en1, ln1, cn1⟩ : ∃ n, N ^ (P - 2) % P = n ∧ n < 115792089237316195423570985008687907853269984665640564039457584007913129639936 ∧ ∀ (w : World), TI w → Calls Tryd.prog 70 #[.agg (ec N).toArray] w fun e w' => e = .returned (.agg (ec n).toArray) ∧ Below w.heap.size w w' := ⟨_, rfl, mod_lt_T _, fun w hT => finv_el N lN w hT.e.p hT.v⟩
  replace en1 := Away.mk en1
  obtain ⟨n2, en2, ln2, cn2⟩ : ∃ n, A * n1 % P = n ∧ n < 115792089237316195423570985008687907853269984665640564039457584007913129639936 ∧ ∀ (w : World), Tab w → Calls Tryd.prog 33 #[.agg (ec A).toArray, .agg (ec n1).toArray] w fun e w' => e = .returned (.agg (ec n).toArray) ∧ Below w.heap.size w w' := ⟨_, rfl, mod_lt_T _, fun w hT => fmul_el A n1 lA ln1 w hT⟩
  replace en2 := Away.mk en2
  obtain ⟨n3, en3, ln3, cn3⟩ : ∃ n, B * n1 % P = n ∧ n < 115792089237316195423570985008687907853269984665640564039457584007913129639936 ∧ ∀ (w : World), Tab w → Calls Tryd.prog 33 #[.agg (ec B).toArray, .agg (ec n1).toArray] w fun e w' => e = .returned (.agg (ec n).toArray) ∧ Below w.heap.size w w' := ⟨_, rfl, mod_lt_T _, fun w hT => fmul_el B n1 lB ln1 w hT⟩
  replace en3 := Away.mk en3
  have HV : Away (pv p = pc n2 n3) := ⟨by
    obtain ⟨k1, k2⟩ := h1.out
    have ex : p.x = z n2 := by rw [← en2.out, z_mul, ← en1.out, z_inv]; exact k1.symm
    have ey : p.y = z n3 := by rw [← en3.out, z_mul, ← en1.out, z_inv]; exact k2.symm
    unfold pv
    rw [ex, ey, z_valz (by rw [← en2.out]; exact mod_lt_P _), z_valz (by rw [← en3.out]; exact mod_lt_P _)]⟩
  clear h1
  go_enter Tryd.func50, Tryd.ntmps50
  go_upto_region 1 with (refine wpList_alloc_row rfl 26 rfl _ zPw ?_)
  try simp only [Act.put, List.setIfInBounds_toArray, List.set_cons_zero, List.set_cons_succ, alloc_size, h2]
  clear h2
  go_wp2_with (first | refine wpList_load_at rfl 24 _ rfl rfl (sc_3 (h.row (i := 0) rfl)) rfl Tryd.underlying24 (ie4 _) ?_)
  refine (cn1 _ (hI.below h.bel)).mono ?_
  rintro _ wn ⟨rfl, hb⟩
  replace h := h.below hb
  clear hb
  obtain ⟨g3, hgq, hq⟩ := h.more 2 24 (ec 0)
  replace hq : Fr w _ [(w.heap.size, 52, sc A B M N), ((w.heap.size + 1), 26, pc 0 0), (g3, 24, ec 0)] := hq
  go_upto_region 2 with (first | refine wpList_alloc_row rfl 24 rfl _ z4w ?_ | (refine wpList_store_R rfl 24 _ _ rfl _ (ec n1) (congrArg (fun g => Value.pointer (some ⟨g, 0, none⟩)) hgq) rfl (hq.row (i := 2) rfl) (ie4 _) rfl (ec_all _) ?_; intro wz q hg hz))
  replace h : Fr w wz [(w.heap.size, 52, sc A B M N), ((w.heap.size + 1), 26, pc 0 0), (g3, 24, ec n1)] := hq.put (i := 2) rfl q hg
  try rw [hgq]
  clear q hg hz hq hgq
  try simp only [Act.put]
  replace h := h.drew
  refine wp_region_noPanic ?_
  refine wp_region_held_drew (S := fun w' => Row w' w.heap.size 52 (sc A B M N) ∧ Row w' g3 24 (ec n1)) (by kernel_rfl) ⟨h.row (i := 0) rfl, h.row (i := 2) rfl⟩ (fun hHeld => ?_)
  refine wpAnyH_takeL (i := 0) (v := ?vt1) rfl (by kernel_rfl) (by kernel_rfl) (by kernel_rfl) (fun _ _ _ h => h) (by rfl) ?ht1 (by assumption) ?_
  case ht1 => intro w hSw; go_simp <;> with_reducible rfl
  simp only [Act.put, List.setIfInBounds_toArray, List.set_cons_zero, List.set_cons_succ]
  refine wpAnyH_takeL (i := 1) (v := (.agg (ec A).toArray)) rfl (by kernel_rfl) (by kernel_rfl) (by kernel_rfl) (fun _ _ _ h => h) (by rfl) ?ht2 (by assumption) ?_
  case ht2 => intro w hSw; exact exec_load_at 24 _ rfl rfl (sc_0 hSw.1) rfl Tryd.underlying24 (ie4 _)
  simp only [Act.put, List.setIfInBounds_toArray, List.set_cons_zero, List.set_cons_succ]
  refine wpAnyH_takeL (i := 2) (v := (.agg (ec n1).toArray)) rfl (by kernel_rfl) (by kernel_rfl) (by kernel_rfl) (fun _ _ _ h => h) (by rfl) ?ht3 (by assumption) ?_
  case ht3 => intro w hSw; exact exec_load_W 24 _ rfl rfl hSw.2 Tryd.underlying24 rfl (ie4 _)
  simp only [Act.put, List.setIfInBounds_toArray, List.set_cons_zero, List.set_cons_succ]
  refine wpAnyH_takeL (i := 4) (v := ?vt4) rfl (by kernel_rfl) (by kernel_rfl) (by kernel_rfl) (fun _ _ _ h => h) (by rfl) ?ht4 (by assumption) ?_
  case ht4 => intro w hSw; go_simp <;> with_reducible rfl
  simp only [Act.put, List.setIfInBounds_toArray, List.set_cons_zero, List.set_cons_succ]
  refine wpAnyH_takeL (i := 5) (v := (.agg (ec B).toArray)) rfl (by kernel_rfl) (by kernel_rfl) (by kernel_rfl) (fun _ _ _ h => h) (by rfl) ?ht5 (by assumption) ?_
  case ht5 => intro w hSw; exact exec_load_at 24 _ rfl rfl (sc_1 hSw.1) rfl Tryd.underlying24 (ie4 _)
  simp only [Act.put, List.setIfInBounds_toArray, List.set_cons_zero, List.set_cons_succ]
  refine wpAnyH_takeL (i := 6) (v := (.agg (ec n1).toArray)) rfl (by kernel_rfl) (by kernel_rfl) (by kernel_rfl) (fun _ _ _ h => h) (by rfl) ?ht6 (by assumption) ?_
  case ht6 => intro w hSw; exact exec_load_W 24 _ rfl rfl hSw.2 Tryd.underlying24 rfl (ie4 _)
  simp only [Act.put, List.setIfInBounds_toArray, List.set_cons_zero, List.set_cons_succ]
  refine allReadyH_oneL (i := 3) (by kernel_rfl) rfl (by rfl) (fun K hK => ?_)
  go_simp
  refine (cn2 _ (hP.below h.bel)).mono ?_
  rintro _ wn ⟨rfl, hb⟩
  replace h := h.below hb
  clear hb
  refine hK.out _ _ ⟨h.row (i := 0) rfl, h.row (i := 2) rfl⟩ (fun hHeld => ?_)
  clear hK K
  refine allReadyH_oneL (i := 7) (by kernel_rfl) rfl (by rfl) (fun K hK => ?_)
  go_simp
  refine (cn3 _ (hP.below h.bel)).mono ?_
  rintro _ wn ⟨rfl, hb⟩
  replace h := h.below hb
  clear hb
  refine hK.out _ _ ⟨h.row (i := 0) rfl, h.row (i := 2) rfl⟩ (fun hHeld => ?_)
  clear hK K
  refine wpAnyH_takeL (i := 8) (v := (.agg (pc n2 n3).toArray)) rfl (by kernel_rfl) (by kernel_rfl) (by kernel_rfl) (fun _ _ _ h => h) (by rfl) ?ht7 (by assumption) ?_
  case ht7 => intro w hSw; exact exec_build_C 26 _ rfl (pc n2 n3) (by kernel_rfl)
  simp only [Act.put, List.setIfInBounds_toArray, List.set_cons_zero, List.set_cons_succ]
  refine allReadyH_oneL (i := 9) (by kernel_rfl) rfl (by rfl) (fun K hK => ?_)
  refine wp_store_R 26 _ _ rfl _ (pc n2 n3) rfl rfl (h.row (i := 1) rfl) (iP _ _) rfl (pc_all _ _) ?_
  intro wz q hg hz
  replace h : Fr w wz [(w.heap.size, 52, sc A B M N), ((w.heap.size + 1), 26, pc n2 n3), (g3, 24, ec n1)] := h.put (i := 1) rfl q hg
  clear q hg hz
  refine hK.out _ _ ⟨h.row (i := 0) rfl, h.row (i := 2) rfl⟩ (fun hHeld => ?_)
  clear hK K
  refine wpAnyH_done (by kernel_rfl) ?_ _
  refine NoPanic.normal ?_
  go_wp2
  exact result_row Tryd.results50 rfl (h.row (i := 1) rfl) Tryd.underlying26 rfl (iP _ _) rfl ⟨by rw [HV.out], h.bel⟩
set_option maxHeartbeats 1000000 in
theorem add_any (A B M N : Nat) (lA : A < 115792089237316195423570985008687907853269984665640564039457584007913129639936) (lB : B < 115792089237316195423570985008687907853269984665640564039457584007913129639936) (lM : M < 115792089237316195423570985008687907853269984665640564039457584007913129639936) (lN : N < 115792089237316195423570985008687907853269984665640564039457584007913129639936) (w : World) (hI : TI w) : Calls Tryd.prog 22 #[.agg (pc A B).toArray, .agg (pc M N).toArray] w fun e w' => e = .returned (.agg (pv (padd (ownP A B) (ownP M N))).toArray) ∧ Below w.heap.size w w' := by
  obtain ⟨w2, h2, h⟩ := Fr.three w 26 26 26 (pc A B) (pc M N) (pc 0 0)
  have hE := hI.e
  have hP := hE.p
  obtain ⟨X, Y, eX, eY, lX, lY, zX, zY, co⟩ := counted_let A B lA lB
  obtain ⟨U, V, eU, eV, lU, lV, zU, zV, cu⟩ := counted_let M N lM lN
  obtain ⟨X1, lX1, H1, s1⟩ := scale_let X Y lX lY _ zX zY
  obtain ⟨U1, lU1, H2, s2⟩ := scale_let U V lU lV _ zU zV
  generalize ownP A B = p at *
  generalize ownP M N = q at *
  obtain ⟨RX, RY, hR⟩ : ∃ a b, pv (padd p q) = pc a b := ⟨_, _, rfl⟩
  have hPt := fun (A B M N : Nat) lA lB lM lN h1 (w : World) hI => point_any A B M N lA lB lM lN (padd p q) h1 w hI
  rw [hR] at hPt ⊢
  clear hR eX eY eU eV zX zY zU zV
  replace H1 := Away.mk H1
  replace H2 := Away.mk H2
  go_enter Tryd.func22, Tryd.ntmps22
  go_upto_region 1 with (refine wpList_alloc_row rfl 26 rfl _ zPw ?_)
  try simp only [Act.put, List.setIfInBounds_toArray, List.set_cons_zero, List.set_cons_succ, alloc_size, h2]
  clear h2
  replace h := h.drew
  refine wp_region_noPanic ?_
  refine wp_region_held_drew (S := fun w' => Row w' w.heap.size 26 (pc A B) ∧ Row w' (w.heap.size + 1) 26 (pc M N)) (by kernel_rfl) ⟨h.row (i := 0) rfl, h.row (i := 1) rfl⟩ (fun hHeld => ?_)
  refine wpAnyH_takeL (i := 0) (v := (.agg (pc A B).toArray)) rfl (by kernel_rfl) (by kernel_rfl) (by kernel_rfl) (fun _ _ _ h => h) (by rfl) ?ht1 (by assumption) ?_
  case ht1 => intro w hSw; exact exec_load_W 26 _ rfl rfl hSw.1 Tryd.underlying26 rfl (iP _ _)
  simp only [Act.put, List.setIfInBounds_toArray, List.set_cons_zero, List.set_cons_succ]
  refine wpAnyH_takeL (i := 3) (v := (.agg (pc M N).toArray)) rfl (by kernel_rfl) (by kernel_rfl) (by kernel_rfl) (fun _ _ _ h => h) (by rfl) ?ht2 (by assumption) ?_
  case ht2 => intro w hSw; exact exec_load_W 26 _ rfl rfl hSw.2 Tryd.underlying26 rfl (iP _ _)
  simp only [Act.put, List.setIfInBounds_toArray, List.set_cons_zero, List.set_cons_succ]
  refine allReadyH_oneL (i := 1) (by kernel_rfl) rfl (by rfl) (fun K hK => ?_)
  go_simp
  refine (co _ (hE.below h.bel)).mono ?_
  rintro _ wn ⟨rfl, hb⟩
  replace h := h.below hb
  clear hb
  refine hK.out _ _ ⟨h.row (i := 0) rfl, h.row (i := 1) rfl⟩ (fun hHeld => ?_)
  clear hK K
  refine allReadyH_oneL (i := 2) (by kernel_rfl) rfl (by rfl) (fun K hK => ?_)
  go_simp
  refine (s1 _ (hP.below h.bel)).mono ?_
  rintro _ wn ⟨rfl, hb⟩
  replace h := h.below hb
  clear hb
  refine hK.out _ _ ⟨h.row (i := 0) rfl, h.row (i := 1) rfl⟩ (fun hHeld => ?_)
  clear hK K
  refine allReadyH_oneL (i := 4) (by kernel_rfl) rfl (by rfl) (fun K hK => ?_)
  go_simp
  refine (cu _ (hE.below h.bel)).mono ?_
  rintro _ wn ⟨rfl, hb⟩
  replace h := h.below hb
  clear hb
  refine hK.out _ _ ⟨h.row (i := 0) rfl, h.row (i := 1) rfl⟩ (fun hHeld => ?_)
  clear hK K
  refine allReadyH_oneL (i := 5) (by kernel_rfl) rfl (by rfl) (fun K hK => ?_)
  go_simp
  refine (s2 _ (hP.below h.bel)).mono ?_
  rintro _ wn ⟨rfl, hb⟩
  replace h := h.below hb
  clear hb
  refine hK.out _ _ ⟨h.row (i := 0) rfl, h.row (i := 1) rfl⟩ (fun hHeld => ?_)
  clear hK K
  refine allReadyH_oneL (i := 6) (by kernel_rfl) rfl (by rfl) (fun K hK => ?_)
  go_simp
  refine (eplus_any X Y X1 1 U V U1 1 lX lY lX1 (by decide) lU lV lU1 (by decide) _ _ H1.out H2.out _ (hE.below h.bel)).mono ?_
  rintro _ wn ⟨⟨A3, B3, M3, N3, rfl, lA3, lB3, lM3, lN3, H3⟩, hb⟩
  replace h := h.below hb
  clear hb
  refine hK.out _ _ ⟨h.row (i := 0) rfl, h.row (i := 1) rfl⟩ (fun hHeld => ?_)
  clear hK K
  refine allReadyH_oneL (i := 7) (by kernel_rfl) rfl (by rfl) (fun K hK => ?_)
  go_simp
  refine (hPt A3 B3 M3 N3 lA3 lB3 lM3 lN3 H3 _ (hI.below h.bel)).mono ?_
  rintro _ wn ⟨rfl, hb⟩
  replace h := h.below hb
  clear hb
  refine hK.out _ _ ⟨h.row (i := 0) rfl, h.row (i := 1) rfl⟩ (fun hHeld => ?_)
  clear hK K
  refine allReadyH_oneL (i := 8) (by kernel_rfl) rfl (by rfl) (fun K hK => ?_)
  refine wp_store_R 26 _ _ rfl _ (pc RX RY) rfl rfl (h.row (i := 2) rfl) (iP _ _) rfl (pc_all _ _) ?_
  intro wz q hg hz
  replace h : Fr w wz [(w.heap.size, 26, pc A B), ((w.heap.size + 1), 26, pc M N), ((w.heap.size + 1 + 1), 26, pc RX RY)] := h.put (i := 2) rfl q hg
  clear q hg hz
  refine hK.out _ _ ⟨h.row (i := 0) rfl, h.row (i := 1) rfl⟩ (fun hHeld => ?_)
  clear hK K
  refine wpAnyH_done (by kernel_rfl) ?_ _
  refine NoPanic.normal ?_
  go_wp2
  exact result_row Tryd.results22 rfl (h.row (i := 2) rfl) Tryd.underlying26 rfl (iP _ _) rfl ⟨rfl, h.bel⟩
theorem neg_any (A B : Nat) (lA : A < 115792089237316195423570985008687907853269984665640564039457584007913129639936) (lB : B < 115792089237316195423570985008687907853269984665640564039457584007913129639936) (w : World) (hE : TE w) : Calls Tryd.prog 14 #[.agg (pc A B).toArray] w fun e w' => e = .returned (.agg (pv (pneg (ownP A B))).toArray) ∧ Below w.heap.size w w' := by
  obtain ⟨w2, h2, h⟩ := Fr.two w 26 26 (pc A B) (pc 0 0)
  have hP := hE.p
  obtain ⟨X, Y, eX, eY, lX, lY, zX, zY, co⟩ := counted_let A B lA lB
  obtain ⟨n1, en1, ln1, cn1⟩ : ∃ n, (0 % P + (P - X % P)) % P = n ∧ n < 115792089237316195423570985008687907853269984665640564039457584007913129639936 ∧ ∀ (w : World), Tab w → Calls Tryd.prog 42 #[.agg (ec X).toArray] w fun e w' => e = .returned (.agg (ec n).toArray) ∧ Below w.heap.size w w' := ⟨_, rfl, mod_lt_T _, fun w hT => negative_el X lX w hT⟩
  replace en1 := Away.mk en1
  have HV : Away (pv (pneg (ownP A B)) = pc n1 Y) := ⟨by
    have e : (pneg (ownP A B)).x.val = n1 := by
      rw [← en1.out, ← z_valz (mod_lt_P _), z_sub, zX]
      show (-(ownP A B).x).val = (0 - (ownP A B).x).val
      congr 1
    unfold pv
    rw [e]
    show pc n1 (ownP A B).y.val = _
    rw [eY]⟩
  clear eX eY zX zY
  go_enter Tryd.func14, Tryd.ntmps14
  go_upto_region 1 with (refine wpList_alloc_row rfl 26 rfl _ zPw ?_)
  try simp only [Act.put, List.setIfInBounds_toArray, List.set_cons_zero, List.set_cons_succ, alloc_size, h2]
  clear h2
  go_wp2_with (first | refine wpList_load_row rfl 26 _ rfl _ rfl _ _ _ _ (h.row (i := 0) rfl) Tryd.underlying26 rfl (iP _ _) ?_)
  refine (co _ (hE.below h.bel)).mono ?_
  rintro _ wn ⟨rfl, hb⟩
  replace h := h.below hb
  clear hb
  go_upto_region 2 with (first | (refine wpList_store_R rfl 26 _ _ rfl _ (pc X Y) rfl rfl (h.row (i := 0) rfl) (iP _ _) rfl (pc_all _ _) ?_; intro wz q hg hz))
  replace h : Fr w wz [(w.heap.size, 26, pc X Y), ((w.heap.size + 1), 26, pc 0 0)] := h.put (i := 0) rfl q hg
  clear q hg hz
  try simp only [Act.put]
  replace h := h.drew
  refine wp_region_noPanic ?_
  refine wp_region_held_drew (S := fun w' => Row w' w.heap.size 26 (pc X Y)) (by kernel_rfl) (h.row (i := 0) rfl) (fun hHeld => ?_)
  refine wpAnyH_takeL (i := 0) (v := ?vt1) rfl (by kernel_rfl) (by kernel_rfl) (by kernel_rfl) (fun _ _ _ h => h) (by rfl) ?ht1 (by assumption) ?_
  case ht1 => intro w hSw; go_simp <;> with_reducible rfl
  simp only [Act.put, List.setIfInBounds_toArray, List.set_cons_zero, List.set_cons_succ]
  refine wpAnyH_takeL (i := 1) (v := (.agg (ec X).toArray)) rfl (by kernel_rfl) (by kernel_rfl) (by kernel_rfl) (fun _ _ _ h => h) (by rfl) ?ht2 (by assumption) ?_
  case ht2 => intro w hSw; exact exec_load_at 24 _ rfl rfl (pc_x hSw) rfl Tryd.underlying24 (ie4 _)
  simp only [Act.put, List.setIfInBounds_toArray, List.set_cons_zero, List.set_cons_succ]
  refine wpAnyH_takeL (i := 3) (v := ?vt3) rfl (by kernel_rfl) (by kernel_rfl) (by kernel_rfl) (fun _ _ _ h => h) (by rfl) ?ht3 (by assumption) ?_
  case ht3 => intro w hSw; go_simp <;> with_reducible rfl
  simp only [Act.put, List.setIfInBounds_toArray, List.set_cons_zero, List.set_cons_succ]
  refine wpAnyH_takeL (i := 4) (v := (.agg (ec Y).toArray)) rfl (by kernel_rfl) (by kernel_rfl) (by kernel_rfl) (fun _ _ _ h => h) (by rfl) ?ht4 (by assumption) ?_
  case ht4 => intro w hSw; exact exec_load_at 24 _ rfl rfl (pc_y hSw) rfl Tryd.underlying24 (ie4 _)
  simp only [Act.put, List.setIfInBounds_toArray, List.set_cons_zero, List.set_cons_succ]
  refine allReadyH_oneL (i := 2) (by kernel_rfl) rfl (by rfl) (fun K hK => ?_)
  go_simp
  refine (cn1 _ (hP.below h.bel)).mono ?_
  rintro _ wn ⟨rfl, hb⟩
  replace h := h.below hb
  clear hb
  refine hK.out _ _ (h.row (i := 0) rfl) (fun hHeld => ?_)
  clear hK K
  refine wpAnyH_takeL (i := 5) (v := (.agg (pc n1 Y).toArray)) rfl (by kernel_rfl) (by kernel_rfl) (by kernel_rfl) (fun _ _ _ h => h) (by rfl) ?ht5 (by assumption) ?_
  case ht5 => intro w hSw; exact exec_build_C 26 _ rfl (pc n1 Y) (by kernel_rfl)
  simp only [Act.put, List.setIfInBounds_toArray, List.set_cons_zero, List.set_cons_succ]
  refine allReadyH_oneL (i := 6) (by kernel_rfl) rfl (by rfl) (fun K hK => ?_)
  refine wp_store_R 26 _ _ rfl _ (pc n1 Y) rfl rfl (h.row (i := 1) rfl) (iP _ _) rfl (pc_all _ _) ?_
  intro wz q hg hz
  replace h : Fr w wz [(w.heap.size, 26, pc X Y), ((w.heap.size + 1), 26, pc n1 Y)] := h.put (i := 1) rfl q hg
  clear q hg hz
  refine hK.out _ _ (h.row (i := 0) rfl) (fun hHeld => ?_)
  clear hK K
  refine wpAnyH_done (by kernel_rfl) ?_ _
  refine NoPanic.normal ?_
  go_wp2
  exact result_row Tryd.results14 rfl (h.row (i := 1) rfl) Tryd.underlying26 rfl (iP _ _) rfl ⟨by rw [HV.out], h.bel⟩
/-- What X times X is, of Y. -/
def sqx (N : Nat) : Nat := ((N * N % P) % P + (P - 1 % P)) % P * (((Dn * (N * N % P) % P + 1) % P) ^ (P - 2) % P) % P
theorem sqx_lt (N : Nat) : sqx N < 115792089237316195423570985008687907853269984665640564039457584007913129639936 := mod_lt_T _
set_option maxHeartbeats 1000000 in
theorem square_any (A : Nat) (lA : A < 115792089237316195423570985008687907853269984665640564039457584007913129639936) (w : World) (hI : TI w) : Calls Tryd.prog 54 #[.agg (ec A).toArray] w fun e w' => e = .returned (.agg (ec (sqx A)).toArray) ∧ Below w.heap.size w w' := by
  obtain ⟨w2, h2, h⟩ := Fr.two w 24 24 (ec A) (ec 0)
  have hE := hI.e
  have hP := hE.p
  obtain ⟨n1, en1, ln1, cn1⟩ : ∃ n, A * A % P = n ∧ n < 115792089237316195423570985008687907853269984665640564039457584007913129639936 ∧ ∀ (w : World), Tab w → Calls Tryd.prog 33 #[.agg (ec A).toArray, .agg (ec A).toArray] w fun e w' => e = .returned (.agg (ec n).toArray) ∧ Below w.heap.size w w' := ⟨_, rfl, mod_lt_T _, fun w hT => fmul_el A A lA lA w hT⟩
  replace en1 := Away.mk en1
  obtain ⟨n2, en2, ln2, cn2⟩ : ∃ n, Dn * n1 % P = n ∧ n < 115792089237316195423570985008687907853269984665640564039457584007913129639936 ∧ ∀ (w : World), Tab w → Calls Tryd.prog 33 #[.agg (ec Dn).toArray, .agg (ec n1).toArray] w fun e w' => e = .returned (.agg (ec n).toArray) ∧ Below w.heap.size w w' := ⟨_, rfl, mod_lt_T _, fun w hT => fmul_el Dn n1 lDn ln1 w hT⟩
  replace en2 := Away.mk en2
  obtain ⟨n3, en3, ln3, cn3⟩ : ∃ n, (n2 + 1) % P = n ∧ n < 115792089237316195423570985008687907853269984665640564039457584007913129639936 ∧ ∀ (w : World), Tab w → Calls Tryd.prog 35 #[.agg (ec n2).toArray, .agg (ec 1).toArray] w fun e w' => e = .returned (.agg (ec n).toArray) ∧ Below w.heap.size w w' := ⟨_, rfl, mod_lt_T _, fun w hT => fadd_el n2 1 ln2 (by decide) w hT⟩
  replace en3 := Away.mk en3
  obtain ⟨n4, en4, ln4, cn4⟩ : ∃ n, (n1 % P + (P - 1 % P)) % P = n ∧ n < 115792089237316195423570985008687907853269984665640564039457584007913129639936 ∧ ∀ (w : World), Tab w → Calls Tryd.prog 32 #[.agg (ec n1).toArray, .agg (ec 1).toArray] w fun e w' => e = .returned (.agg (ec n).toArray) ∧ Below w.heap.size w w' := ⟨_, rfl, mod_lt_T _, fun w hT => fsub_el n1 1 ln1 (by decide) w hT⟩
  replace en4 := Away.mk en4
  obtain ⟨n5, en5, ln5, cn5⟩ : ∃ n, n3 ^ (P - 2) % P = n ∧ n < 115792089237316195423570985008687907853269984665640564039457584007913129639936 ∧ ∀ (w : World), TI w → Calls Tryd.prog 70 #[.agg (ec n3).toArray] w fun e w' => e = .returned (.agg (ec n).toArray) ∧ Below w.heap.size w w' := ⟨_, rfl, mod_lt_T _, fun w hT => finv_el n3 ln3 w hT.e.p hT.v⟩
  replace en5 := Away.mk en5
  obtain ⟨n6, en6, ln6, cn6⟩ : ∃ n, n4 * n5 % P = n ∧ n < 115792089237316195423570985008687907853269984665640564039457584007913129639936 ∧ ∀ (w : World), Tab w → Calls Tryd.prog 33 #[.agg (ec n4).toArray, .agg (ec n5).toArray] w fun e w' => e = .returned (.agg (ec n).toArray) ∧ Below w.heap.size w w' := ⟨_, rfl, mod_lt_T _, fun w hT => fmul_el n4 n5 ln4 ln5 w hT⟩
  replace en6 := Away.mk en6
  have HV : Away (sqx A = n6) := ⟨by rw [sqx, en1.out, en2.out, en3.out, en4.out, en5.out, en6.out]⟩
  go_enter Tryd.func54, Tryd.ntmps54
  go_upto_region 1 with (refine wpList_alloc_row rfl 24 rfl _ z4w ?_)
  try simp only [Act.put, List.setIfInBounds_toArray, List.set_cons_zero, List.set_cons_succ, alloc_size, h2]
  clear h2
  go_wp2_with (first | refine wpList_load_row rfl 24 _ rfl _ rfl _ _ _ _ (h.row (i := 0) rfl) Tryd.underlying24 rfl (ie4 _) ?_)
  refine (cn1 _ (hP.below h.bel)).mono ?_
  rintro _ wn ⟨rfl, hb⟩
  replace h := h.below hb
  clear hb
  obtain ⟨g3, hgq, hq⟩ := h.more 2 24 (ec 0)
  replace hq : Fr w _ [(w.heap.size, 24, ec A), ((w.heap.size + 1), 24, ec 0), (g3, 24, ec 0)] := hq
  go_upto_region 2 with (first | refine wpList_alloc_row rfl 24 rfl _ z4w ?_ | (refine wpList_store_R rfl 24 _ _ rfl _ (ec n1) (congrArg (fun g => Value.pointer (some ⟨g, 0, none⟩)) hgq) rfl (hq.row (i := 2) rfl) (ie4 _) rfl (ec_all _) ?_; intro wz q hg hz))
  replace h : Fr w wz [(w.heap.size, 24, ec A), ((w.heap.size + 1), 24, ec 0), (g3, 24, ec n1)] := hq.put (i := 2) rfl q hg
  try rw [hgq]
  clear q hg hz hq hgq
  go_wp2_with (first | refine wpList_load_G rfl 24 _ rfl rfl ((hE.below h.bel).d.c) Tryd.underlying24 rfl (ie4 _) ?_ | refine wpList_load_row rfl 24 _ rfl _ rfl _ _ _ _ (h.row (i := 2) rfl) Tryd.underlying24 rfl (ie4 _) ?_)
  refine (cn2 _ (hP.below h.bel)).mono ?_
  rintro _ wn ⟨rfl, hb⟩
  replace h := h.below hb
  clear hb
  go_wp2_with (fail)
  refine (from1 _).mono ?_
  rintro _ wn ⟨rfl, hb⟩
  replace h := h.below hb
  clear hb
  go_wp2_with (fail)
  refine (cn3 _ (hP.below h.bel)).mono ?_
  rintro _ wn ⟨rfl, hb⟩
  replace h := h.below hb
  clear hb
  obtain ⟨g4, hgq, hq⟩ := h.more 3 24 (ec 0)
  replace hq : Fr w _ [(w.heap.size, 24, ec A), ((w.heap.size + 1), 24, ec 0), (g3, 24, ec n1), (g4, 24, ec 0)] := hq
  go_upto_region 3 with (first | refine wpList_alloc_row rfl 24 rfl _ z4w ?_ | (refine wpList_store_R rfl 24 _ _ rfl _ (ec n3) (congrArg (fun g => Value.pointer (some ⟨g, 0, none⟩)) hgq) rfl (hq.row (i := 3) rfl) (ie4 _) rfl (ec_all _) ?_; intro wz q hg hz))
  replace h : Fr w wz [(w.heap.size, 24, ec A), ((w.heap.size + 1), 24, ec 0), (g3, 24, ec n1), (g4, 24, ec n3)] := hq.put (i := 3) rfl q hg
  try rw [hgq]
  clear q hg hz hq hgq
  try simp only [Act.put]
  replace h := h.drew
  refine wp_region_noPanic ?_
  refine wp_region_held_drew (S := fun w' => Row w' g3 24 (ec n1) ∧ Row w' g4 24 (ec n3)) (by kernel_rfl) ⟨h.row (i := 2) rfl, h.row (i := 3) rfl⟩ (fun hHeld => ?_)
  refine wpAnyH_takeL (i := 0) (v := (.agg (ec n1).toArray)) rfl (by kernel_rfl) (by kernel_rfl) (by kernel_rfl) (fun _ _ _ h => h) (by rfl) ?ht1 (by assumption) ?_
  case ht1 => intro w hSw; exact exec_load_W 24 _ rfl rfl hSw.1 Tryd.underlying24 rfl (ie4 _)
  simp only [Act.put, List.setIfInBounds_toArray, List.set_cons_zero, List.set_cons_succ]
  refine wpAnyH_takeL (i := 3) (v := (.agg (ec n3).toArray)) rfl (by kernel_rfl) (by kernel_rfl) (by kernel_rfl) (fun _ _ _ h => h) (by rfl) ?ht2 (by assumption) ?_
  case ht2 => intro w hSw; exact exec_load_W 24 _ rfl rfl hSw.2 Tryd.underlying24 rfl (ie4 _)
  simp only [Act.put, List.setIfInBounds_toArray, List.set_cons_zero, List.set_cons_succ]
  refine allReadyH_oneL (i := 1) (by kernel_rfl) rfl (by rfl) (fun K hK => ?_)
  go_simp
  refine (from1 _).mono ?_
  rintro _ wn ⟨rfl, hb⟩
  replace h := h.below hb
  clear hb
  refine hK.out _ _ ⟨h.row (i := 2) rfl, h.row (i := 3) rfl⟩ (fun hHeld => ?_)
  clear hK K
  refine allReadyH_oneL (i := 2) (by kernel_rfl) rfl (by rfl) (fun K hK => ?_)
  go_simp
  refine (cn4 _ (hP.below h.bel)).mono ?_
  rintro _ wn ⟨rfl, hb⟩
  replace h := h.below hb
  clear hb
  refine hK.out _ _ ⟨h.row (i := 2) rfl, h.row (i := 3) rfl⟩ (fun hHeld => ?_)
  clear hK K
  refine allReadyH_oneL (i := 4) (by kernel_rfl) rfl (by rfl) (fun K hK => ?_)
  go_simp
  refine (cn5 _ (hI.below h.bel)).mono ?_
  rintro _ wn ⟨rfl, hb⟩
  replace h := h.below hb
  clear hb
  refine hK.out _ _ ⟨h.row (i := 2) rfl, h.row (i := 3) rfl⟩ (fun hHeld => ?_)
  clear hK K
  refine allReadyH_oneL (i := 5) (by kernel_rfl) rfl (by rfl) (fun K hK => ?_)
  go_simp
  refine (cn6 _ (hP.below h.bel)).mono ?_
  rintro _ wn ⟨rfl, hb⟩
  replace h := h.below hb
  clear hb
  refine hK.out _ _ ⟨h.row (i := 2) rfl, h.row (i := 3) rfl⟩ (fun hHeld => ?_)
  clear hK K
  refine allReadyH_oneL (i := 6) (by kernel_rfl) rfl (by rfl) (fun K hK => ?_)
  refine wp_store_R 24 _ _ rfl _ (ec n6) rfl rfl (h.row (i := 1) rfl) (ie4 _) rfl (ec_all _) ?_
  intro wz q hg hz
  replace h : Fr w wz [(w.heap.size, 24, ec A), ((w.heap.size + 1), 24, ec n6), (g3, 24, ec n1), (g4, 24, ec n3)] := h.put (i := 1) rfl q hg
  clear q hg hz
  refine hK.out _ _ ⟨h.row (i := 2) rfl, h.row (i := 3) rfl⟩ (fun hHeld => ?_)
  clear hK K
  refine wpAnyH_done (by kernel_rfl) ?_ _
  refine NoPanic.normal ?_
  go_wp2
  exact result_row Tryd.results54 rfl (h.row (i := 1) rfl) Tryd.underlying24 rfl (ie4 _) rfl ⟨by rw [HV.out], h.bel⟩
end Go.Proofs.YthjlbcbkllaicaaDoor.F
