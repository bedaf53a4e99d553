/-
  Proved: for every three points p, q, r (of whatever numbers) the law EdwardsGroup returns true, and its arguments read as before. No conditions of ours; the packages' variables start as their initialisers lay them, as the given card ties it.
-/
import Derived.Test.YthjlbcbkllaicaaDoorRows
import Derived.Test.YthjlbcbkllaicaaDoorCards
import Derived.Test.YthjlbcbkllaicaaDoorTie
import Derived.SevenTiedAt
import Derived.Test.YthjlbcbkllaicaaDoorEpN
import Derived.WalkKit
import Derived.ProofKit
import Derived.OpenShut
import Derived.ShutString
import Derived.ChangeOld
import Derived.Below
namespace Go.Proofs.YthjlbcbkllaicaaDoor.edwardsGroup
open Go.ChangeShapes Go.WideShapes Go.ChangeAt Go.RowKit
open F
open E (Pt padd pneg)
set_option linter.unusedVariables false
set_option maxRecDepth 10000

theorem own : ownKnob Tryd.prog.godebug = none := by kernel_rfl
theorem laidOut : laidOutB Tryd.prog = true := by kernel_rfl

theorem addL (p : Pt) (M N : Nat) (lM : M < 115792089237316195423570985008687907853269984665640564039457584007913129639936) (lN : N < 115792089237316195423570985008687907853269984665640564039457584007913129639936) (w : World) (hI : TI w) : Calls Tryd.prog 22 #[.agg (pv p).toArray, .agg (pc M N).toArray] w fun e w' => e = .returned (.agg (pv (padd p (ownP M N))).toArray) ∧ Below w.heap.size w w' := by
  have h := add_any p.x.val p.y.val M N (ptx_lt p) (pty_lt p) lM lN w hI
  rw [ownP_val] at h
  exact h
theorem addR (M N : Nat) (p : Pt) (lM : M < 115792089237316195423570985008687907853269984665640564039457584007913129639936) (lN : N < 115792089237316195423570985008687907853269984665640564039457584007913129639936) (w : World) (hI : TI w) : Calls Tryd.prog 22 #[.agg (pc M N).toArray, .agg (pv p).toArray] w fun e w' => e = .returned (.agg (pv (padd (ownP M N) p)).toArray) ∧ Below w.heap.size w w' := by
  have h := add_any M N p.x.val p.y.val lM lN (ptx_lt p) (pty_lt p) w hI
  rw [ownP_val] at h
  exact h
set_option maxHeartbeats 8000000 in
theorem walk (A B : Nat) (lA : A < 115792089237316195423570985008687907853269984665640564039457584007913129639936) (lB : B < 115792089237316195423570985008687907853269984665640564039457584007913129639936) (M N : Nat) (lM : M < 115792089237316195423570985008687907853269984665640564039457584007913129639936) (lN : N < 115792089237316195423570985008687907853269984665640564039457584007913129639936) (D G : Nat) (lD : D < 115792089237316195423570985008687907853269984665640564039457584007913129639936) (lG : G < 115792089237316195423570985008687907853269984665640564039457584007913129639936) (w : World) (hI : TI w) (hB : TB w) : Calls Tryd.prog 7 #[.agg (pc A B).toArray, .agg (pc M N).toArray, .agg (pc D G).toArray] w fun e w' => e = .returned (.bool true) ∧ Below w.heap.size w w' := by
  obtain ⟨w2, h2, h⟩ := Fr.three w 26 26 26 (pc A B) (pc M N) (pc D G)
  have hE := hI.e
  obtain ⟨p, hp⟩ : ∃ p, ownP A B = p := ⟨_, rfl⟩
  obtain ⟨q, hq⟩ : ∃ q, ownP M N = q := ⟨_, rfl⟩
  obtain ⟨r, hr⟩ : ∃ r, ownP D G = r := ⟨_, rfl⟩
  have c1 := add_any A B M N lA lB lM lN
  have c2 := add_any M N A B lM lN lA lB
  have c4 := add_any M N D G lM lN lD lG
  have cN := neg_any A B lA lB
  rw [hp, hq] at c1 c2
  rw [hq, hr] at c4
  rw [hp] at cN
  rw [E.padd_comm q p] at c2
  have c3 := addL (padd p q) D G lD lG
  rw [hr] at c3
  have c5 := addR A B (padd q r) lA lB
  rw [hp, ← E.padd_assoc] at c5
  have c6 := addR A B (pneg p) lA lB
  rw [hp, E.padd_neg] at c6
  have c7 := addL Pt.zero A B lA lB
  rw [hp, E.zero_padd] at c7
  have cS := on_pt (padd p q)
  have cO := on_any A B lA lB
  have cZ := zero_pt
  have sS := fun w => eqPt w (padd p q) (padd p q)
  have sT := fun w => eqPt w (padd (padd p q) r) (padd (padd p q) r)
  have sZ := fun w => eqPt w Pt.zero Pt.zero
  rw [eqB_self] at sS sT sZ
  have sW : onB A B = true → ∀ w, (Op.equalIn 10000 26 (.agg (pv p).toArray) (.agg (pc A B).toArray)).run Tryd.prog w = .ok true w := fun ho w => by
    have e : pv p = pc A B := by rw [← hp, pv_own, if_pos ho]
    rw [e, eqP w A B A B lA lB lA lB, decide_eq_true rfl, decide_eq_true rfl]
    rfl
  clear hp hq hr
  obtain ⟨S1, S2, hS⟩ : ∃ a b, pv (padd p q) = pc a b := ⟨_, _, rfl⟩
  rw [hS] at c1 c2 c3 cS sS
  obtain ⟨T1, T2, hT⟩ : ∃ a b, pv (padd (padd p q) r) = pc a b := ⟨_, _, rfl⟩
  rw [hT] at c3 c5 sT
  obtain ⟨U1, U2, hU⟩ : ∃ a b, pv (padd q r) = pc a b := ⟨_, _, rfl⟩
  rw [hU] at c4 c5
  obtain ⟨V1, V2, hV⟩ : ∃ a b, pv (pneg p) = pc a b := ⟨_, _, rfl⟩
  rw [hV] at cN c6
  obtain ⟨J1, J2, hJ⟩ : ∃ a b, pv p = pc a b := ⟨_, _, rfl⟩
  rw [hJ] at c7 sW
  obtain ⟨Z1, Z2, hZ⟩ : ∃ a b, pv Pt.zero = pc a b := ⟨_, _, rfl⟩
  rw [hZ] at cZ c6 c7 sZ
  clear hS hT hU hV hJ hZ
  obtain ⟨o1, ho1⟩ : ∃ o, onB A B = o := ⟨_, rfl⟩
  rw [ho1] at cO sW
  clear ho1
  go_enter Tryd.func7, Tryd.ntmps7
  go_upto_region 1 with fail
  try simp only [Act.put, List.setIfInBounds_toArray, List.set_cons_zero, List.set_cons_succ, alloc_size, h2]
  clear h2
  go_wp2_with (first | refine wpList_load_row rfl 26 _ rfl _ rfl _ _ _ _ (h.row (i := 0) rfl) Tryd.underlying26 rfl (iP _ _) ?_ | refine wpList_load_row rfl 26 _ rfl _ rfl _ _ _ _ (h.row (i := 1) rfl) Tryd.underlying26 rfl (iP _ _) ?_)
  refine (c1 _ (hI.below h.bel)).mono ?_
  rintro _ wn ⟨rfl, hb⟩
  replace h := h.below hb
  clear hb
  obtain ⟨g7, hgq, hq⟩ := h.more 3 26 (pc 0 0)
  replace hq : Fr w _ [(w.heap.size, 26, pc A B), ((w.heap.size + 1), 26, pc M N), ((w.heap.size + 1 + 1), 26, pc D G), (g7, 26, pc 0 0)] := hq
  go_upto_region 2 with (first | refine wpList_alloc_row rfl 26 rfl _ zPw ?_ | (refine wpList_store_R rfl 26 _ _ rfl _ (pc S1 S2) (congrArg (fun g => Value.pointer (some ⟨g, 0, none⟩)) hgq) rfl (hq.row (i := 3) rfl) (iP _ _) rfl (pc_all _ _) ?_; intro wz q hg hz))
  replace h : Fr w wz [(w.heap.size, 26, pc A B), ((w.heap.size + 1), 26, pc M N), ((w.heap.size + 1 + 1), 26, pc D G), (g7, 26, pc S1 S2)] := hq.put (i := 3) rfl q hg
  try rw [hgq]
  clear q hg hz hq hgq
  go_wp2_with fail
  refine (cZ _).mono ?_
  rintro _ wn ⟨rfl, hb⟩
  replace h := h.below hb
  clear hb
  obtain ⟨g8, hgq, hq⟩ := h.more 4 26 (pc 0 0)
  replace hq : Fr w _ [(w.heap.size, 26, pc A B), ((w.heap.size + 1), 26, pc M N), ((w.heap.size + 1 + 1), 26, pc D G), (g7, 26, pc S1 S2), (g8, 26, pc 0 0)] := hq
  go_upto_region 3 with (first | refine wpList_alloc_row rfl 26 rfl _ zPw ?_ | (refine wpList_store_R rfl 26 _ _ rfl _ (pc Z1 Z2) (congrArg (fun g => Value.pointer (some ⟨g, 0, none⟩)) hgq) rfl (hq.row (i := 4) rfl) (iP _ _) rfl (pc_all _ _) ?_; intro wz q hg hz))
  replace h : Fr w wz [(w.heap.size, 26, pc A B), ((w.heap.size + 1), 26, pc M N), ((w.heap.size + 1 + 1), 26, pc D G), (g7, 26, pc S1 S2), (g8, 26, pc Z1 Z2)] := hq.put (i := 4) rfl q hg
  try rw [hgq]
  clear q hg hz hq hgq
  replace h := h.drew
  refine wp_region_noPanic ?_
  refine wp_region_held_drew (S := fun w' => Row w' g7 26 (pc S1 S2) ∧ Row w' (w.heap.size + 1) 26 (pc M N) ∧ Row w' w.heap.size 26 (pc A B)) (by kernel_rfl) ⟨h.row (i := 3) rfl, h.row (i := 1) rfl, h.row (i := 0) rfl⟩ (fun hHeld => ?_)
  refine wpAnyH_takeL (i := 0) (v := (.agg (pc S1 S2).toArray)) rfl (by kernel_rfl) (by kernel_rfl) (by kernel_rfl) (fun _ _ _ h => h) (by rfl) ?ht1 (by assumption) ?_
  case ht1 => intro w hSw; exact exec_load_W 26 _ rfl rfl hSw.1 Tryd.underlying26 rfl (iP _ _)
  simp only [Act.put, List.setIfInBounds_toArray, List.set_cons_zero, List.set_cons_succ]
  refine allReadyH_oneL (i := 1) (by kernel_rfl) rfl (by rfl) (fun K hK => ?_)
  go_simp
  refine (cS _ (hE.below h.bel)).mono ?_
  rintro _ wn ⟨rfl, hb⟩
  replace h := h.below hb
  clear hb
  refine hK.out _ _ ⟨h.row (i := 3) rfl, h.row (i := 1) rfl, h.row (i := 0) rfl⟩ (fun hHeld => ?_)
  clear hK K
  refine wpAnyH_takeL (i := 2) (v := ?vt2) rfl (by kernel_rfl) (by kernel_rfl) (by kernel_rfl) (fun _ _ _ h => h) (by rfl) ?ht2 (by assumption) ?_
  case ht2 => intro w hSw; go_simp <;> with_reducible rfl
  simp only [Act.put, List.setIfInBounds_toArray, List.set_cons_zero, List.set_cons_succ]
  refine wpAnyH_takeL (i := 3) (v := (.agg (pc S1 S2).toArray)) rfl (by kernel_rfl) (by kernel_rfl) (by kernel_rfl) (fun _ _ _ h => h) (by rfl) ?ht3 (by assumption) ?_
  case ht3 => intro w hSw; exact exec_load_W 26 _ rfl rfl hSw.1 Tryd.underlying26 rfl (iP _ _)
  simp only [Act.put, List.setIfInBounds_toArray, List.set_cons_zero, List.set_cons_succ]
  refine wpAnyH_takeL (i := 4) (v := (.agg (pc M N).toArray)) rfl (by kernel_rfl) (by kernel_rfl) (by kernel_rfl) (fun _ _ _ h => h) (by rfl) ?ht4 (by assumption) ?_
  case ht4 => intro w hSw; exact exec_load_W 26 _ rfl rfl hSw.2.1 Tryd.underlying26 rfl (iP _ _)
  simp only [Act.put, List.setIfInBounds_toArray, List.set_cons_zero, List.set_cons_succ]
  refine wpAnyH_takeL (i := 5) (v := (.agg (pc A B).toArray)) rfl (by kernel_rfl) (by kernel_rfl) (by kernel_rfl) (fun _ _ _ h => h) (by rfl) ?ht5 (by assumption) ?_
  case ht5 => intro w hSw; exact exec_load_W 26 _ rfl rfl hSw.2.2 Tryd.underlying26 rfl (iP _ _)
  simp only [Act.put, List.setIfInBounds_toArray, List.set_cons_zero, List.set_cons_succ]
  refine allReadyH_oneL (i := 6) (by kernel_rfl) rfl (by rfl) (fun K hK => ?_)
  go_simp
  refine (c2 _ (hI.below h.bel)).mono ?_
  rintro _ wn ⟨rfl, hb⟩
  replace h := h.below hb
  clear hb
  refine hK.out _ _ ⟨h.row (i := 3) rfl, h.row (i := 1) rfl, h.row (i := 0) rfl⟩ (fun hHeld => ?_)
  clear hK K
  refine wpAnyH_takeL (i := 7) (v := ?vt6) rfl (by kernel_rfl) (by kernel_rfl) (by kernel_rfl) (fun _ _ _ h => h) (by rfl) ?ht6 (by assumption) ?_
  case ht6 => intro w hSw; go_simp <;> with_reducible rfl
  simp only [Act.put, List.setIfInBounds_toArray, List.set_cons_zero, List.set_cons_succ]
  refine wpAnyH_takeL (i := 8) (v := ?vt7) rfl (by kernel_rfl) (by kernel_rfl) (by kernel_rfl) (fun _ _ _ h => h) (by rfl) ?ht7 (by assumption) ?_
  case ht7 => intro w hSw; go_simp <;> with_reducible rfl
  simp only [Act.put, List.setIfInBounds_toArray, List.set_cons_zero, List.set_cons_succ]
  refine wpAnyH_takeL (i := 9) (v := ?vt8) rfl (by kernel_rfl) (by kernel_rfl) (by kernel_rfl) (fun _ _ _ h => h) (by rfl) ?ht8 (by assumption) ?_
  case ht8 => intro w hSw; go_simp <;> with_reducible rfl
  simp only [Act.put, List.setIfInBounds_toArray, List.set_cons_zero, List.set_cons_succ]
  refine wpAnyH_done (by kernel_rfl) ?_ _
  refine NoPanic.normal ?_
  go_upto_region 4 with fail
  try simp only [Act.put, List.setIfInBounds_toArray, List.set_cons_zero, List.set_cons_succ]
  replace h := h.drew
  refine wp_region_noPanic ?_
  refine wp_region_held_drew (S := fun w' => Row w' g7 26 (pc S1 S2) ∧ Row w' (w.heap.size + 1 + 1) 26 (pc D G) ∧ Row w' w.heap.size 26 (pc A B) ∧ Row w' (w.heap.size + 1) 26 (pc M N)) (by kernel_rfl) ⟨h.row (i := 3) rfl, h.row (i := 2) rfl, h.row (i := 0) rfl, h.row (i := 1) rfl⟩ (fun hHeld => ?_)
  refine wpAnyH_takeL (i := 0) (v := (.agg (pc S1 S2).toArray)) rfl (by kernel_rfl) (by kernel_rfl) (by kernel_rfl) (fun _ _ _ h => h) (by rfl) ?ht9 (by assumption) ?_
  case ht9 => intro w hSw; exact exec_load_W 26 _ rfl rfl hSw.1 Tryd.underlying26 rfl (iP _ _)
  simp only [Act.put, List.setIfInBounds_toArray, List.set_cons_zero, List.set_cons_succ]
  refine wpAnyH_takeL (i := 1) (v := (.agg (pc D G).toArray)) rfl (by kernel_rfl) (by kernel_rfl) (by kernel_rfl) (fun _ _ _ h => h) (by rfl) ?ht10 (by assumption) ?_
  case ht10 => intro w hSw; exact exec_load_W 26 _ rfl rfl hSw.2.1 Tryd.underlying26 rfl (iP _ _)
  simp only [Act.put, List.setIfInBounds_toArray, List.set_cons_zero, List.set_cons_succ]
  refine wpAnyH_takeL (i := 3) (v := (.agg (pc A B).toArray)) rfl (by kernel_rfl) (by kernel_rfl) (by kernel_rfl) (fun _ _ _ h => h) (by rfl) ?ht11 (by assumption) ?_
  case ht11 => intro w hSw; exact exec_load_W 26 _ rfl rfl hSw.2.2.1 Tryd.underlying26 rfl (iP _ _)
  simp only [Act.put, List.setIfInBounds_toArray, List.set_cons_zero, List.set_cons_succ]
  refine wpAnyH_takeL (i := 4) (v := (.agg (pc M N).toArray)) rfl (by kernel_rfl) (by kernel_rfl) (by kernel_rfl) (fun _ _ _ h => h) (by rfl) ?ht12 (by assumption) ?_
  case ht12 => intro w hSw; exact exec_load_W 26 _ rfl rfl hSw.2.2.2 Tryd.underlying26 rfl (iP _ _)
  simp only [Act.put, List.setIfInBounds_toArray, List.set_cons_zero, List.set_cons_succ]
  refine wpAnyH_takeL (i := 5) (v := (.agg (pc D G).toArray)) rfl (by kernel_rfl) (by kernel_rfl) (by kernel_rfl) (fun _ _ _ h => h) (by rfl) ?ht13 (by assumption) ?_
  case ht13 => intro w hSw; exact exec_load_W 26 _ rfl rfl hSw.2.1 Tryd.underlying26 rfl (iP _ _)
  simp only [Act.put, List.setIfInBounds_toArray, List.set_cons_zero, List.set_cons_succ]
  refine allReadyH_oneL (i := 2) (by kernel_rfl) rfl (by rfl) (fun K hK => ?_)
  go_simp
  refine (c3 _ (hI.below h.bel)).mono ?_
  rintro _ wn ⟨rfl, hb⟩
  replace h := h.below hb
  clear hb
  refine hK.out _ _ ⟨h.row (i := 3) rfl, h.row (i := 2) rfl, h.row (i := 0) rfl, h.row (i := 1) rfl⟩ (fun hHeld => ?_)
  clear hK K
  refine allReadyH_oneL (i := 6) (by kernel_rfl) rfl (by rfl) (fun K hK => ?_)
  go_simp
  refine (c4 _ (hI.below h.bel)).mono ?_
  rintro _ wn ⟨rfl, hb⟩
  replace h := h.below hb
  clear hb
  refine hK.out _ _ ⟨h.row (i := 3) rfl, h.row (i := 2) rfl, h.row (i := 0) rfl, h.row (i := 1) rfl⟩ (fun hHeld => ?_)
  clear hK K
  refine allReadyH_oneL (i := 7) (by kernel_rfl) rfl (by rfl) (fun K hK => ?_)
  go_simp
  refine (c5 _ (hI.below h.bel)).mono ?_
  rintro _ wn ⟨rfl, hb⟩
  replace h := h.below hb
  clear hb
  refine hK.out _ _ ⟨h.row (i := 3) rfl, h.row (i := 2) rfl, h.row (i := 0) rfl, h.row (i := 1) rfl⟩ (fun hHeld => ?_)
  clear hK K
  refine wpAnyH_takeL (i := 8) (v := ?vt14) rfl (by kernel_rfl) (by kernel_rfl) (by kernel_rfl) (fun _ _ _ h => h) (by rfl) ?ht14 (by assumption) ?_
  case ht14 => intro w hSw; go_simp <;> with_reducible rfl
  simp only [Act.put, List.setIfInBounds_toArray, List.set_cons_zero, List.set_cons_succ]
  refine wpAnyH_takeL (i := 9) (v := ?vt15) rfl (by kernel_rfl) (by kernel_rfl) (by kernel_rfl) (fun _ _ _ h => h) (by rfl) ?ht15 (by assumption) ?_
  case ht15 => intro w hSw; go_simp <;> with_reducible rfl
  simp only [Act.put, List.setIfInBounds_toArray, List.set_cons_zero, List.set_cons_succ]
  refine wpAnyH_done (by kernel_rfl) ?_ _
  refine NoPanic.normal ?_
  go_upto_region 5 with fail
  try simp only [Act.put, List.setIfInBounds_toArray, List.set_cons_zero, List.set_cons_succ]
  cases o1
  · clear sW
    replace h := h.drew
    refine wp_region_noPanic ?_
    refine wp_region_held_drew (S := fun w' => Row w' w.heap.size 26 (pc A B) ∧ Row w' g8 26 (pc Z1 Z2)) (by kernel_rfl) ⟨h.row (i := 0) rfl, h.row (i := 4) rfl⟩ (fun hHeld => ?_)
    refine wpAnyH_takeL (i := 0) (v := (.agg (pc A B).toArray)) rfl (by kernel_rfl) (by kernel_rfl) (by kernel_rfl) (fun _ _ _ h => h) (by rfl) ?ht16 (by assumption) ?_
    case ht16 => intro w hSw; exact exec_load_W 26 _ rfl rfl hSw.1 Tryd.underlying26 rfl (iP _ _)
    simp only [Act.put, List.setIfInBounds_toArray, List.set_cons_zero, List.set_cons_succ]
    refine wpAnyH_takeL (i := 1) (v := (.agg (pc A B).toArray)) rfl (by kernel_rfl) (by kernel_rfl) (by kernel_rfl) (fun _ _ _ h => h) (by rfl) ?ht17 (by assumption) ?_
    case ht17 => intro w hSw; exact exec_load_W 26 _ rfl rfl hSw.1 Tryd.underlying26 rfl (iP _ _)
    simp only [Act.put, List.setIfInBounds_toArray, List.set_cons_zero, List.set_cons_succ]
    refine wpAnyH_takeL (i := 4) (v := (.agg (pc Z1 Z2).toArray)) rfl (by kernel_rfl) (by kernel_rfl) (by kernel_rfl) (fun _ _ _ h => h) (by rfl) ?ht18 (by assumption) ?_
    case ht18 => intro w hSw; exact exec_load_W 26 _ rfl rfl hSw.2 Tryd.underlying26 rfl (iP _ _)
    simp only [Act.put, List.setIfInBounds_toArray, List.set_cons_zero, List.set_cons_succ]
    refine allReadyH_oneL (i := 2) (by kernel_rfl) rfl (by rfl) (fun K hK => ?_)
    go_simp
    refine (cN _ (hE.below h.bel)).mono ?_
    rintro _ wn ⟨rfl, hb⟩
    replace h := h.below hb
    clear hb
    refine hK.out _ _ ⟨h.row (i := 0) rfl, h.row (i := 4) rfl⟩ (fun hHeld => ?_)
    clear hK K
    refine allReadyH_oneL (i := 3) (by kernel_rfl) rfl (by rfl) (fun K hK => ?_)
    go_simp
    refine (c6 _ (hI.below h.bel)).mono ?_
    rintro _ wn ⟨rfl, hb⟩
    replace h := h.below hb
    clear hb
    refine hK.out _ _ ⟨h.row (i := 0) rfl, h.row (i := 4) rfl⟩ (fun hHeld => ?_)
    clear hK K
    refine wpAnyH_takeL (i := 5) (v := ?vt19) rfl (by kernel_rfl) (by kernel_rfl) (by kernel_rfl) (fun _ _ _ h => h) (by rfl) ?ht19 (by assumption) ?_
    case ht19 => intro w hSw; go_simp <;> with_reducible rfl
    simp only [Act.put, List.setIfInBounds_toArray, List.set_cons_zero, List.set_cons_succ]
    refine wpAnyH_takeL (i := 6) (v := ?vt20) rfl (by kernel_rfl) (by kernel_rfl) (by kernel_rfl) (fun _ _ _ h => h) (by rfl) ?ht20 (by assumption) ?_
    case ht20 => intro w hSw; go_simp <;> with_reducible rfl
    simp only [Act.put, List.setIfInBounds_toArray, List.set_cons_zero, List.set_cons_succ]
    refine wpAnyH_takeL (i := 7) (v := (.agg (pc A B).toArray)) rfl (by kernel_rfl) (by kernel_rfl) (by kernel_rfl) (fun _ _ _ h => h) (by rfl) ?ht21 (by assumption) ?_
    case ht21 => intro w hSw; exact exec_load_W 26 _ rfl rfl hSw.1 Tryd.underlying26 rfl (iP _ _)
    simp only [Act.put, List.setIfInBounds_toArray, List.set_cons_zero, List.set_cons_succ]
    refine allReadyH_oneL (i := 8) (by kernel_rfl) rfl (by rfl) (fun K hK => ?_)
    go_simp
    refine (cO _ (hE.below h.bel)).mono ?_
    rintro _ wn ⟨rfl, hb⟩
    replace h := h.below hb
    clear hb
    refine hK.out _ _ ⟨h.row (i := 0) rfl, h.row (i := 4) rfl⟩ (fun hHeld => ?_)
    clear hK K
    refine wpAnyH_takeL (i := 9) (v := ?vt22) rfl (by kernel_rfl) (by kernel_rfl) (by kernel_rfl) (fun _ _ _ h => h) (by rfl) ?ht22 (by assumption) ?_
    case ht22 => intro w hSw; go_simp <;> with_reducible rfl
    simp only [Act.put, List.setIfInBounds_toArray, List.set_cons_zero, List.set_cons_succ]
    refine wpAnyH_takeL (i := 10) (v := ?vt23) rfl (by kernel_rfl) (by kernel_rfl) (by kernel_rfl) (fun _ _ _ h => h) (by rfl) ?ht23 (by assumption) ?_
    case ht23 => intro w hSw; go_simp <;> with_reducible rfl
    simp only [Act.put, List.setIfInBounds_toArray, List.set_cons_zero, List.set_cons_succ]
    refine wpAnyH_skipL (i := 11) rfl (by kernel_rfl) (by kernel_rfl) (by kernel_rfl) (fun _ _ _ h => h) (by rfl) (by assumption) ?_
    simp only [Act.put, List.setIfInBounds_toArray, List.set_cons_zero, List.set_cons_succ]
    refine wpAnyH_skipL (i := 12) rfl (by kernel_rfl) (by kernel_rfl) (by kernel_rfl) (fun _ _ _ h => h) (by rfl) (by assumption) ?_
    simp only [Act.put, List.setIfInBounds_toArray, List.set_cons_zero, List.set_cons_succ]
    refine wpAnyH_skipL (i := 13) rfl (by kernel_rfl) (by kernel_rfl) (by kernel_rfl) (fun _ _ _ h => h) (by rfl) (by assumption) ?_
    simp only [Act.put, List.setIfInBounds_toArray, List.set_cons_zero, List.set_cons_succ]
    refine wpAnyH_skipL (i := 14) rfl (by kernel_rfl) (by kernel_rfl) (by kernel_rfl) (fun _ _ _ h => h) (by rfl) (by assumption) ?_
    simp only [Act.put, List.setIfInBounds_toArray, List.set_cons_zero, List.set_cons_succ]
    refine wpAnyH_skipL (i := 15) rfl (by kernel_rfl) (by kernel_rfl) (by kernel_rfl) (fun _ _ _ h => h) (by rfl) (by assumption) ?_
    simp only [Act.put, List.setIfInBounds_toArray, List.set_cons_zero, List.set_cons_succ]
    refine wpAnyH_takeL (i := 16) (v := ?vt29) rfl (by kernel_rfl) (by kernel_rfl) (by kernel_rfl) (fun _ _ _ h => h) (by rfl) ?ht29 (by assumption) ?_
    case ht29 => intro w hSw; go_simp <;> with_reducible rfl
    simp only [Act.put, List.setIfInBounds_toArray, List.set_cons_zero, List.set_cons_succ]
    refine wpAnyH_takeL (i := 17) (v := ?vt30) rfl (by kernel_rfl) (by kernel_rfl) (by kernel_rfl) (fun _ _ _ h => h) (by rfl) ?ht30 (by assumption) ?_
    case ht30 => intro w hSw; go_simp <;> with_reducible rfl
    simp only [Act.put, List.setIfInBounds_toArray, List.set_cons_zero, List.set_cons_succ]
    refine wpAnyH_takeL (i := 18) (v := ?vt31) rfl (by kernel_rfl) (by kernel_rfl) (by kernel_rfl) (fun _ _ _ h => h) (by rfl) ?ht31 (by assumption) ?_
    case ht31 => intro w hSw; go_simp <;> with_reducible rfl
    simp only [Act.put, List.setIfInBounds_toArray, List.set_cons_zero, List.set_cons_succ]
    refine wpAnyH_done (by kernel_rfl) ?_ _
    refine NoPanic.normal ?_
    go_wp2_with fail
    refine (alive13_true _ (hE.below h.bel) (hB.below h.bel)).mono ?_
    rintro _ wn ⟨rfl, hb⟩
    replace h := h.below hb
    clear hb
    go_wp2
    go_ret
    exact ⟨rfl, h.bel⟩
  · replace sW := sW rfl
    replace h := h.drew
    refine wp_region_noPanic ?_
    refine wp_region_held_drew (S := fun w' => Row w' w.heap.size 26 (pc A B) ∧ Row w' g8 26 (pc Z1 Z2)) (by kernel_rfl) ⟨h.row (i := 0) rfl, h.row (i := 4) rfl⟩ (fun hHeld => ?_)
    refine wpAnyH_takeL (i := 0) (v := (.agg (pc A B).toArray)) rfl (by kernel_rfl) (by kernel_rfl) (by kernel_rfl) (fun _ _ _ h => h) (by rfl) ?ht32 (by assumption) ?_
    case ht32 => intro w hSw; exact exec_load_W 26 _ rfl rfl hSw.1 Tryd.underlying26 rfl (iP _ _)
    simp only [Act.put, List.setIfInBounds_toArray, List.set_cons_zero, List.set_cons_succ]
    refine wpAnyH_takeL (i := 1) (v := (.agg (pc A B).toArray)) rfl (by kernel_rfl) (by kernel_rfl) (by kernel_rfl) (fun _ _ _ h => h) (by rfl) ?ht33 (by assumption) ?_
    case ht33 => intro w hSw; exact exec_load_W 26 _ rfl rfl hSw.1 Tryd.underlying26 rfl (iP _ _)
    simp only [Act.put, List.setIfInBounds_toArray, List.set_cons_zero, List.set_cons_succ]
    refine wpAnyH_takeL (i := 4) (v := (.agg (pc Z1 Z2).toArray)) rfl (by kernel_rfl) (by kernel_rfl) (by kernel_rfl) (fun _ _ _ h => h) (by rfl) ?ht34 (by assumption) ?_
    case ht34 => intro w hSw; exact exec_load_W 26 _ rfl rfl hSw.2 Tryd.underlying26 rfl (iP _ _)
    simp only [Act.put, List.setIfInBounds_toArray, List.set_cons_zero, List.set_cons_succ]
    refine allReadyH_oneL (i := 2) (by kernel_rfl) rfl (by rfl) (fun K hK => ?_)
    go_simp
    refine (cN _ (hE.below h.bel)).mono ?_
    rintro _ wn ⟨rfl, hb⟩
    replace h := h.below hb
    clear hb
    refine hK.out _ _ ⟨h.row (i := 0) rfl, h.row (i := 4) rfl⟩ (fun hHeld => ?_)
    clear hK K
    refine allReadyH_oneL (i := 3) (by kernel_rfl) rfl (by rfl) (fun K hK => ?_)
    go_simp
    refine (c6 _ (hI.below h.bel)).mono ?_
    rintro _ wn ⟨rfl, hb⟩
    replace h := h.below hb
    clear hb
    refine hK.out _ _ ⟨h.row (i := 0) rfl, h.row (i := 4) rfl⟩ (fun hHeld => ?_)
    clear hK K
    refine wpAnyH_takeL (i := 5) (v := ?vt35) rfl (by kernel_rfl) (by kernel_rfl) (by kernel_rfl) (fun _ _ _ h => h) (by rfl) ?ht35 (by assumption) ?_
    case ht35 => intro w hSw; go_simp <;> with_reducible rfl
    simp only [Act.put, List.setIfInBounds_toArray, List.set_cons_zero, List.set_cons_succ]
    refine wpAnyH_takeL (i := 6) (v := ?vt36) rfl (by kernel_rfl) (by kernel_rfl) (by kernel_rfl) (fun _ _ _ h => h) (by rfl) ?ht36 (by assumption) ?_
    case ht36 => intro w hSw; go_simp <;> with_reducible rfl
    simp only [Act.put, List.setIfInBounds_toArray, List.set_cons_zero, List.set_cons_succ]
    refine wpAnyH_takeL (i := 7) (v := (.agg (pc A B).toArray)) rfl (by kernel_rfl) (by kernel_rfl) (by kernel_rfl) (fun _ _ _ h => h) (by rfl) ?ht37 (by assumption) ?_
    case ht37 => intro w hSw; exact exec_load_W 26 _ rfl rfl hSw.1 Tryd.underlying26 rfl (iP _ _)
    simp only [Act.put, List.setIfInBounds_toArray, List.set_cons_zero, List.set_cons_succ]
    refine allReadyH_oneL (i := 8) (by kernel_rfl) rfl (by rfl) (fun K hK => ?_)
    go_simp
    refine (cO _ (hE.below h.bel)).mono ?_
    rintro _ wn ⟨rfl, hb⟩
    replace h := h.below hb
    clear hb
    refine hK.out _ _ ⟨h.row (i := 0) rfl, h.row (i := 4) rfl⟩ (fun hHeld => ?_)
    clear hK K
    refine wpAnyH_takeL (i := 9) (v := ?vt38) rfl (by kernel_rfl) (by kernel_rfl) (by kernel_rfl) (fun _ _ _ h => h) (by rfl) ?ht38 (by assumption) ?_
    case ht38 => intro w hSw; go_simp <;> with_reducible rfl
    simp only [Act.put, List.setIfInBounds_toArray, List.set_cons_zero, List.set_cons_succ]
    refine wpAnyH_takeL (i := 10) (v := ?vt39) rfl (by kernel_rfl) (by kernel_rfl) (by kernel_rfl) (fun _ _ _ h => h) (by rfl) ?ht39 (by assumption) ?_
    case ht39 => intro w hSw; go_simp <;> with_reducible rfl
    simp only [Act.put, List.setIfInBounds_toArray, List.set_cons_zero, List.set_cons_succ]
    refine wpAnyH_takeL (i := 11) (v := (.agg (pc Z1 Z2).toArray)) rfl (by kernel_rfl) (by kernel_rfl) (by kernel_rfl) (fun _ _ _ h => h) (by rfl) ?ht40 (by assumption) ?_
    case ht40 => intro w hSw; exact exec_load_W 26 _ rfl rfl hSw.2 Tryd.underlying26 rfl (iP _ _)
    simp only [Act.put, List.setIfInBounds_toArray, List.set_cons_zero, List.set_cons_succ]
    refine wpAnyH_takeL (i := 12) (v := (.agg (pc A B).toArray)) rfl (by kernel_rfl) (by kernel_rfl) (by kernel_rfl) (fun _ _ _ h => h) (by rfl) ?ht41 (by assumption) ?_
    case ht41 => intro w hSw; exact exec_load_W 26 _ rfl rfl hSw.1 Tryd.underlying26 rfl (iP _ _)
    simp only [Act.put, List.setIfInBounds_toArray, List.set_cons_zero, List.set_cons_succ]
    refine wpAnyH_takeL (i := 14) (v := (.agg (pc A B).toArray)) rfl (by kernel_rfl) (by kernel_rfl) (by kernel_rfl) (fun _ _ _ h => h) (by rfl) ?ht42 (by assumption) ?_
    case ht42 => intro w hSw; exact exec_load_W 26 _ rfl rfl hSw.1 Tryd.underlying26 rfl (iP _ _)
    simp only [Act.put, List.setIfInBounds_toArray, List.set_cons_zero, List.set_cons_succ]
    refine allReadyH_oneL (i := 13) (by kernel_rfl) rfl (by rfl) (fun K hK => ?_)
    go_simp
    refine (c7 _ (hI.below h.bel)).mono ?_
    rintro _ wn ⟨rfl, hb⟩
    replace h := h.below hb
    clear hb
    refine hK.out _ _ ⟨h.row (i := 0) rfl, h.row (i := 4) rfl⟩ (fun hHeld => ?_)
    clear hK K
    refine wpAnyH_takeL (i := 15) (v := ?vt43) rfl (by kernel_rfl) (by kernel_rfl) (by kernel_rfl) (fun _ _ _ h => h) (by rfl) ?ht43 (by assumption) ?_
    case ht43 => intro w hSw; go_simp <;> with_reducible rfl
    simp only [Act.put, List.setIfInBounds_toArray, List.set_cons_zero, List.set_cons_succ]
    refine wpAnyH_takeL (i := 16) (v := ?vt44) rfl (by kernel_rfl) (by kernel_rfl) (by kernel_rfl) (fun _ _ _ h => h) (by rfl) ?ht44 (by assumption) ?_
    case ht44 => intro w hSw; go_simp <;> with_reducible rfl
    simp only [Act.put, List.setIfInBounds_toArray, List.set_cons_zero, List.set_cons_succ]
    refine wpAnyH_takeL (i := 17) (v := ?vt45) rfl (by kernel_rfl) (by kernel_rfl) (by kernel_rfl) (fun _ _ _ h => h) (by rfl) ?ht45 (by assumption) ?_
    case ht45 => intro w hSw; go_simp <;> with_reducible rfl
    simp only [Act.put, List.setIfInBounds_toArray, List.set_cons_zero, List.set_cons_succ]
    refine wpAnyH_takeL (i := 18) (v := ?vt46) rfl (by kernel_rfl) (by kernel_rfl) (by kernel_rfl) (fun _ _ _ h => h) (by rfl) ?ht46 (by assumption) ?_
    case ht46 => intro w hSw; go_simp <;> with_reducible rfl
    simp only [Act.put, List.setIfInBounds_toArray, List.set_cons_zero, List.set_cons_succ]
    refine wpAnyH_done (by kernel_rfl) ?_ _
    refine NoPanic.normal ?_
    go_wp2_with fail
    refine (alive13_true _ (hE.below h.bel) (hB.below h.bel)).mono ?_
    rintro _ wn ⟨rfl, hb⟩
    replace h := h.below hb
    clear hb
    go_wp2
    go_ret
    exact ⟨rfl, h.bel⟩

set_option maxRecDepth 100000 in
theorem lifted (os : Os) (started : os.Started) (H : Type) (enc : TypeId × Value → H) :
    ReturnsInHanded {} Tryd.checked os 7 .any (fun w args => (Rows.edwardsGroupSpec.pre enc Tryd.prog Tryd.f7 [] false w args ∧ laidMetH Tryd.prog L4.laid1 w) ∧ sizedMet enc Tryd.prog Tryd.f7 (OpenSpec.ofChange Rows.edwardsGroupSpec) false w args) (Rows.edwardsGroupSpec.post enc Tryd.prog Tryd.f7 false true false false) := by
  refine returnsInHanded_of_change_and (C := Tryd.checked) (X := fun w _ => laidMetH Tryd.prog L4.laid1 w) (fun _ _ _ hh h => h.of_heap hh) own started (by kernel_rfl) Tryd.func7
    (ChangeSpec.witness_shaped (enc := enc) (C := Tryd.checked) (os := os) (X := fun w _ => laidMetH Tryd.prog L4.laid1 w) false (World.doorLaid Tryd.prog 400 os) #[.agg (C .u64 (Z 8)).toArray, .agg (C .u64 (Z 8)).toArray, .agg (C .u64 (Z 8)).toArray] 8 rfl (World.shaped_of_RefB (by kernel_rfl) (by kernel_rfl)) (by kernel_rfl) (by kernel_rfl) (by kernel_rfl) (L4.door_met os _)) ?_
  intro W base args ds gs before hval0 hW _ _ hLd _
  have hval : ∀ (j : Nat) t v, Tryd.f7.params[j]? = some t → args[j]? = some v → Value.okWide Tryd.prog W .any base t v := hval0
  have hW' := hW
  obtain ⟨p, q, hA0, hV, rfl, hfz, hnd⟩ := hW
  have hA : DataW.TrodAll enc Tryd.prog W 0 (fun _ => true) true Tryd.f7.params.toList args.toList ds p := hA0
  rw [Tryd.params7] at hA hval
  obtain ⟨v0, vs0, d0, ds0, p0, q0, hargs, rfl, rfl, h0, r0⟩ := trodAll_cons hA
  obtain ⟨v1, vs1, d1, ds1, p1, q1, rfl, rfl, rfl, h1, r1⟩ := trodAll_cons r0
  obtain ⟨v2, vs2, d2, ds2, p2, q2, rfl, rfl, rfl, h2, r2⟩ := trodAll_cons r1
  obtain ⟨rfl, rfl, rfl⟩ := trodAll_nil r2
  obtain rfl : args = #[v0, v1, v2] := by cases args; simp_all
  obtain ⟨rfl, rfl⟩ := trodVars_none hV
  have k0 := h0
  have lt0 : ∀ x ∈ p0, x.block < W.heap.size := by obtain ⟨m, hm⟩ := k0; exact DataW.trod_lt m _ _ _ hm
  have k1 := h1
  have lt1 : ∀ x ∈ p1, x.block < W.heap.size := by obtain ⟨m, hm⟩ := k1; exact DataW.trod_lt m _ _ _ hm
  have k2 := h2
  have lt2 : ∀ x ∈ p2, x.block < W.heap.size := by obtain ⟨m, hm⟩ := k2; exact DataW.trod_lt m _ _ _ hm
  obtain ⟨n0, m0, b0, c0, rfl⟩ := open_point (hval 0 26 v0 rfl rfl) h0
  obtain ⟨n1, m1, b1, c1, rfl⟩ := open_point (hval 1 26 v1 rfl rfl) h1
  obtain ⟨n2, m2, b2, c2, rfl⟩ := open_point (hval 2 26 v2 rfl rfl) h2
  clear hA0 hval0
  refine (walk n0 m0 b0 c0 n1 m1 b1 c1 n2 m2 b2 c2 W (L4.of_laid hLd).1 (L4.of_laid hLd).2).mono fun e W' ⟨he, bel⟩ => ?_
  subst he
  exact ⟨_, rfl, _, _, _, [], _, [], hW', trodAll_mk1 (shut_bool Tryd.underlying4 _), (trodAll_cons_mk (Below.trod laidOut (by kernel_rfl) (of_decide_eq_true (by kernel_rfl)) k0 bel lt0) (trodAll_cons_mk (Below.trod laidOut (by kernel_rfl) (of_decide_eq_true (by kernel_rfl)) k1 bel lt1) (trodAll_cons_mk (Below.trod laidOut (by kernel_rfl) (of_decide_eq_true (by kernel_rfl)) k2 bel lt2) trodAll_mk0))), rfl, bel.frame _, fun h => by cases h⟩

theorem over : Rows.edwardsGroupRow.holds Tryd.pinned (OpenSpec.ofChange Rows.edwardsGroupSpec) :=
  OpenClaim.holds_of_wide 7 Tryd.f7 rfl rfl rfl rfl rfl rfl rfl ⟨rfl, rfl, rfl, rfl, rfl⟩ rfl rfl rfl rfl rfl (by kernel_rfl) Tryd.func7 (by kernel_rfl)
    (of_decide_eq_true (by kernel_rfl)) (by unfold Func.isWrapper; first | (rw [if_pos (by decide +kernel)]; kernel_rfl) | (rw [if_neg (by decide +kernel)]; exact ⟨rfl, rfl⟩))
    (fun os started H enc _ => lifted os started H enc)

end Go.Proofs.YthjlbcbkllaicaaDoor.edwardsGroup
namespace Go.Proofs.YthjlbcbkllaicaaDoor
/-- The given statement. -/
theorem edwardsGroup_proved : Rows.EdwardsGroupCardSaid :=
  Claim7.holds_tied_plain_at .later [] [.data, .data, .data, .data] true (true, "6c81ab964824856677c0d2b71b16e379ba1f889a55ffe6000620aa7cdde3cb5a") false
    edwardsGroup.over (fun _ h => by cases h) (by kernel_rfl) (fun _ h => by cases h) edwardsGroup_row_tie rfl ⟨rfl, rfl⟩ (by kernel_rfl) rfl
    (fun f fn hf hfn => by
      obtain rfl : f = 7 := Option.some.inj ((show Tryd.prog.funcNamed "affiant/affiantlaw13.EdwardsGroup" = some 7 by kernel_rfl).symm.trans hf) |>.symm
      obtain rfl : fn = Tryd.f7 := (Option.some.inj (Tryd.func7.symm.trans hfn)).symm
      exact ⟨by kernel_rfl, fun j t ht => by
        rw [Tryd.params7] at ht
        have hm : t ∈ ([26, 26, 26] : List TypeId) := by simpa using Array.mem_of_getElem? ht
        have hall : (([26, 26, 26] : List TypeId).all fun u => !Tryd.prog.wantsStandIn u) = true := by kernel_rfl
        exact (show Tryd.prog.wantsStandIn t = false by simpa using List.all_eq_true.1 hall t hm)⟩)
    (by kernel_rfl)
end Go.Proofs.YthjlbcbkllaicaaDoor
