/-
  Proved: for every point p (of whatever two numbers) and every array b of 32 bytes the law EdwardsBack returns true, and its arguments read as before. No conditions of ours; the packages' variables start as their initialisers lay them, as the given card ties it.
-/
import Derived.Test.YthjlbcbkllaicaaDoorRows
import Derived.Test.YthjlbcbkllaicaaDoorCards
import Derived.Test.YthjlbcbkllaicaaDoorTie
import Derived.SevenTiedAt
import Derived.Test.YthjlbcbkllaicaaDoorEpN
import Derived.WalkKit
import Derived.ProofKit
import Derived.OpenShut
import Derived.ShutString
import Derived.ChangeOld
import Derived.Below
namespace Go.Proofs.YthjlbcbkllaicaaDoor.edwardsBack
open Go.ChangeShapes Go.WideShapes Go.ChangeAt Go.RowKit
open F
open E (Pt)
set_option linter.unusedVariables false
set_option maxRecDepth 10000

theorem own : ownKnob Tryd.prog.godebug = none := by kernel_rfl
theorem laidOut : laidOutB Tryd.prog = true := by kernel_rfl

theorem own_same (A B : Nat) (lA : A < 115792089237316195423570985008687907853269984665640564039457584007913129639936) (lB : B < 115792089237316195423570985008687907853269984665640564039457584007913129639936) (w : World) : (Op.equalIn 10000 26 (.agg (pv (ownP A B)).toArray) (.agg (pc A B).toArray)).run Tryd.prog w = .ok (onB A B) w := by
  unfold pv
  rw [eqP w _ _ A B (ptx_lt _) (pty_lt _) lA lB]
  congr 1
  cases ho : onB A B
  · rw [(ownP_off ho).1, (ownP_off ho).2]
    by_cases h1 : 0 = A
    · by_cases h2 : 1 = B
      · exfalso
        rw [← h1, ← h2] at ho
        have := onB_val Pt.zero
        rw [show Pt.zero.x.val = 0 from rfl, show Pt.zero.y.val = 1 from rfl, ho] at this
        cases this
      · rw [decide_eq_false h2, Bool.and_false]
    · rw [decide_eq_false h1, Bool.false_and]
  · rw [(ownP_on ho).1, (ownP_on ho).2, decide_eq_true rfl, decide_eq_true rfl]
    rfl
set_option maxHeartbeats 8000000 in
theorem walk (A B : Nat) (lA : A < 115792089237316195423570985008687907853269984665640564039457584007913129639936) (lB : B < 115792089237316195423570985008687907853269984665640564039457584007913129639936) (b : List Nat) (hb : Lo 256 b) (hl : b.length = 32) (w : World) (hR : TR w) (hB : TB w) : Calls Tryd.prog 9 #[.agg (pc A B).toArray, .agg (C .u8 b).toArray] w fun e w' => e = .returned (.bool true) ∧ Below w.heap.size w w' := by
  obtain ⟨w2, h2, h⟩ := Fr.two w 26 30 (pc A B) (C .u8 b)
  have hE := hR.i.e
  have c1 := unpack_any b hb hl
  have c2 := pack_any A B lA lB
  have c3 := prog_unpack (ownP A B)
  have cO := on_any A B lA lB
  have cZ := zero_pt
  have sO := own_same A B lA lB
  obtain ⟨M, N, hMN⟩ : ∃ M N, pv (ownP A B) = pc M N := ⟨_, _, rfl⟩
  rw [hMN] at c3 sO
  obtain ⟨K, hK⟩ : ∃ K, pk (ownP A B) = K := ⟨_, rfl⟩
  rw [hK] at c2 c3
  obtain ⟨o1, ho1⟩ : ∃ o, onB A B = o := ⟨_, rfl⟩
  rw [ho1] at cO sO
  clear hMN hK ho1
  have hib : (Tryd.prog.info? 30).map (·.size) = some (C .u8 b).length := by rw [C_length, hl]; exact i32
  have sB := fun w => eq32 w b b hl hl
  rw [decide_eq_true (rfl : b = b)] at sB
  have sZ := fun w => eqPt w Pt.zero Pt.zero
  rw [eqB_self] at sZ
  cases hok : unOk (hiB b) (lowB b)
  · rw [unC, hok, if_neg (by decide)] at c1
    have c1' : ∀ w, TR w → Calls Tryd.prog 26 #[.agg (C .u8 b).toArray] w fun e w' => e = .returned (.tuple #[.agg (pv Pt.zero).toArray, .bool false]) ∧ Below w.heap.size w w' := c1
    obtain ⟨X, Y, hXY⟩ : ∃ X Y, pv Pt.zero = pc X Y := ⟨_, _, rfl⟩
    rw [hXY] at c1' cZ sZ
    clear hXY c1 hok hb
    go_enter Tryd.func9, Tryd.ntmps9
    go_upto_region 1 with fail
    try simp only [Act.put, List.setIfInBounds_toArray, List.set_cons_zero, List.set_cons_succ, alloc_size, h2]
    clear h2
    go_wp2_with (refine wpList_load_row rfl 30 _ rfl _ rfl _ _ _ _ (h.row (i := 1) rfl) Tryd.underlying30 rfl hib ?_)
    refine (c1' _ (hR.below h.bel)).mono ?_
    rintro _ wn ⟨rfl, hb⟩
    replace h := h.below hb
    clear hb
    obtain ⟨g5, hgq, hq⟩ := h.more 2 26 (pc 0 0)
    replace hq : Fr w _ [(w.heap.size, 26, pc A B), ((w.heap.size + 1), 30, C .u8 b), (g5, 26, pc 0 0)] := hq
    go_upto_region 2 with (first | refine wpList_alloc_row rfl 26 rfl _ zPw ?_ | (refine wpList_store_R rfl 26 _ _ rfl _ (pc X Y) (congrArg (fun g => Value.pointer (some ⟨g, 0, none⟩)) hgq) rfl (hq.row (i := 2) rfl) (iP _ _) rfl (pc_all _ _) ?_; intro wz q hg hz))
    replace h : Fr w wz [(w.heap.size, 26, pc A B), ((w.heap.size + 1), 30, C .u8 b), (g5, 26, pc X Y)] := hq.put (i := 2) rfl q hg
    try rw [hgq]
    clear q hg hz hq hgq
    try simp only [Act.put]
    replace h := h.drew
    refine wp_region_noPanic ?_
    refine wp_region_held_drew (S := fun w' => Row w' g5 26 (pc X Y) ∧ Row w' (w.heap.size + 1) 30 (C .u8 b)) (by kernel_rfl) ⟨h.row (i := 2) rfl, h.row (i := 1) rfl⟩ (fun hHeld => ?_)
    refine wpAnyH_takeL (i := 0) (v := ?vt501) rfl (by kernel_rfl) (by kernel_rfl) (by kernel_rfl) (fun _ _ _ h => h) (by rfl) ?ht501 (by assumption) ?_
    case ht501 => intro w hSw; go_simp <;> with_reducible rfl
    simp only [Act.put, List.setIfInBounds_toArray, List.set_cons_zero, List.set_cons_succ]
    refine wpAnyH_takeL (i := 1) (v := ?vt502) rfl (by kernel_rfl) (by kernel_rfl) (by kernel_rfl) (fun _ _ _ h => h) (by rfl) ?ht502 (by assumption) ?_
    case ht502 => intro w hSw; go_simp <;> with_reducible rfl
    simp only [Act.put, List.setIfInBounds_toArray, List.set_cons_zero, List.set_cons_succ]
    refine wpAnyH_skipL (i := 2) rfl (by kernel_rfl) (by kernel_rfl) (by kernel_rfl) (fun _ _ _ h => h) (by rfl) (by assumption) ?_
    simp only [Act.put, List.setIfInBounds_toArray, List.set_cons_zero, List.set_cons_succ]
    refine wpAnyH_skipL (i := 3) rfl (by kernel_rfl) (by kernel_rfl) (by kernel_rfl) (fun _ _ _ h => h) (by rfl) (by assumption) ?_
    simp only [Act.put, List.setIfInBounds_toArray, List.set_cons_zero, List.set_cons_succ]
    refine wpAnyH_skipL (i := 4) rfl (by kernel_rfl) (by kernel_rfl) (by kernel_rfl) (fun _ _ _ h => h) (by rfl) (by assumption) ?_
    simp only [Act.put, List.setIfInBounds_toArray, List.set_cons_zero, List.set_cons_succ]
    refine wpAnyH_skipL (i := 5) rfl (by kernel_rfl) (by kernel_rfl) (by kernel_rfl) (fun _ _ _ h => h) (by rfl) (by assumption) ?_
    simp only [Act.put, List.setIfInBounds_toArray, List.set_cons_zero, List.set_cons_succ]
    refine wpAnyH_skipL (i := 6) rfl (by kernel_rfl) (by kernel_rfl) (by kernel_rfl) (fun _ _ _ h => h) (by rfl) (by assumption) ?_
    simp only [Act.put, List.setIfInBounds_toArray, List.set_cons_zero, List.set_cons_succ]
    refine wpAnyH_skipL (i := 7) rfl (by kernel_rfl) (by kernel_rfl) (by kernel_rfl) (fun _ _ _ h => h) (by rfl) (by assumption) ?_
    simp only [Act.put, List.setIfInBounds_toArray, List.set_cons_zero, List.set_cons_succ]
    refine wpAnyH_skipL (i := 8) rfl (by kernel_rfl) (by kernel_rfl) (by kernel_rfl) (fun _ _ _ h => h) (by rfl) (by assumption) ?_
    simp only [Act.put, List.setIfInBounds_toArray, List.set_cons_zero, List.set_cons_succ]
    refine wpAnyH_skipL (i := 9) rfl (by kernel_rfl) (by kernel_rfl) (by kernel_rfl) (fun _ _ _ h => h) (by rfl) (by assumption) ?_
    simp only [Act.put, List.setIfInBounds_toArray, List.set_cons_zero, List.set_cons_succ]
    refine wpAnyH_skipL (i := 10) rfl (by kernel_rfl) (by kernel_rfl) (by kernel_rfl) (fun _ _ _ h => h) (by rfl) (by assumption) ?_
    simp only [Act.put, List.setIfInBounds_toArray, List.set_cons_zero, List.set_cons_succ]
    refine wpAnyH_takeL (i := 11) (v := ?vt512) rfl (by kernel_rfl) (by kernel_rfl) (by kernel_rfl) (fun _ _ _ h => h) (by rfl) ?ht512 (by assumption) ?_
    case ht512 => intro w hSw; go_simp <;> with_reducible rfl
    simp only [Act.put, List.setIfInBounds_toArray, List.set_cons_zero, List.set_cons_succ]
    refine wpAnyH_takeL (i := 12) (v := ?vt513) rfl (by kernel_rfl) (by kernel_rfl) (by kernel_rfl) (fun _ _ _ h => h) (by rfl) ?ht513 (by assumption) ?_
    case ht513 => intro w hSw; go_simp <;> with_reducible rfl
    simp only [Act.put, List.setIfInBounds_toArray, List.set_cons_zero, List.set_cons_succ]
    refine wpAnyH_takeL (i := 13) (v := ?vt514) rfl (by kernel_rfl) (by kernel_rfl) (by kernel_rfl) (fun _ _ _ h => h) (by rfl) ?ht514 (by assumption) ?_
    case ht514 => intro w hSw; go_simp <;> with_reducible rfl
    simp only [Act.put, List.setIfInBounds_toArray, List.set_cons_zero, List.set_cons_succ]
    refine wpAnyH_takeL (i := 14) (v := ?vt515) rfl (by kernel_rfl) (by kernel_rfl) (by kernel_rfl) (fun _ _ _ h => h) (by rfl) ?ht515 (by assumption) ?_
    case ht515 => intro w hSw; go_simp <;> with_reducible rfl
    simp only [Act.put, List.setIfInBounds_toArray, List.set_cons_zero, List.set_cons_succ]
    refine wpAnyH_takeL (i := 15) (v := ?vt516) rfl (by kernel_rfl) (by kernel_rfl) (by kernel_rfl) (fun _ _ _ h => h) (by rfl) ?ht516 (by assumption) ?_
    case ht516 => intro w hSw; go_simp <;> with_reducible rfl
    simp only [Act.put, List.setIfInBounds_toArray, List.set_cons_zero, List.set_cons_succ]
    refine wpAnyH_takeL (i := 16) (v := (.agg (pc X Y).toArray)) rfl (by kernel_rfl) (by kernel_rfl) (by kernel_rfl) (fun _ _ _ h => h) (by rfl) ?ht517 (by assumption) ?_
    case ht517 => intro w hSw; exact exec_load_W 26 _ rfl rfl hSw.1 Tryd.underlying26 rfl (iP _ _)
    simp only [Act.put, List.setIfInBounds_toArray, List.set_cons_zero, List.set_cons_succ]
    refine allReadyH_oneL (i := 17) (by kernel_rfl) rfl (by rfl) (fun K hK => ?_)
    go_simp
    refine (cZ _).mono ?_
    rintro _ wn ⟨rfl, hb⟩
    replace h := h.below hb
    clear hb
    refine hK.out _ _ ⟨h.row (i := 2) rfl, h.row (i := 1) rfl⟩ (fun hHeld => ?_)
    clear hK K
    refine wpAnyH_takeL (i := 18) (v := ?vt518) rfl (by kernel_rfl) (by kernel_rfl) (by kernel_rfl) (fun _ _ _ h => h) (by rfl) ?ht518 (by assumption) ?_
    case ht518 => intro w hSw; go_simp <;> with_reducible rfl
    simp only [Act.put, List.setIfInBounds_toArray, List.set_cons_zero, List.set_cons_succ]
    refine wpAnyH_takeL (i := 19) (v := ?vt519) rfl (by kernel_rfl) (by kernel_rfl) (by kernel_rfl) (fun _ _ _ h => h) (by rfl) ?ht519 (by assumption) ?_
    case ht519 => intro w hSw; go_simp <;> with_reducible rfl
    simp only [Act.put, List.setIfInBounds_toArray, List.set_cons_zero, List.set_cons_succ]
    refine wpAnyH_takeL (i := 20) (v := ?vt520) rfl (by kernel_rfl) (by kernel_rfl) (by kernel_rfl) (fun _ _ _ h => h) (by rfl) ?ht520 (by assumption) ?_
    case ht520 => intro w hSw; go_simp <;> with_reducible rfl
    simp only [Act.put, List.setIfInBounds_toArray, List.set_cons_zero, List.set_cons_succ]
    refine wpAnyH_done (by kernel_rfl) ?_ _
    refine NoPanic.normal ?_
    go_upto_region 4 with fail
    try simp only [Act.put, List.setIfInBounds_toArray, List.set_cons_zero, List.set_cons_succ]
    go_wp2_with (refine wpList_load_row rfl 26 _ rfl _ rfl _ _ _ _ (h.row (i := 0) rfl) Tryd.underlying26 rfl (iP _ _) ?_)
    refine (c2 _ (hE.below h.bel)).mono ?_
    rintro _ wn ⟨rfl, hb⟩
    replace h := h.below hb
    clear hb
    go_wp2_with fail
    refine (c3 _ (hR.below h.bel)).mono ?_
    rintro _ wn ⟨rfl, hb⟩
    replace h := h.below hb
    clear hb
    obtain ⟨g7, hgq, hq⟩ := h.more 3 26 (pc 0 0)
    replace hq : Fr w _ [(w.heap.size, 26, pc A B), ((w.heap.size + 1), 30, C .u8 b), (g5, 26, pc X Y), (g7, 26, pc 0 0)] := hq
    go_upto_region 5 with (first | refine wpList_alloc_row rfl 26 rfl _ zPw ?_ | (refine wpList_store_R rfl 26 _ _ rfl _ (pc M N) (congrArg (fun g => Value.pointer (some ⟨g, 0, none⟩)) hgq) rfl (hq.row (i := 3) rfl) (iP _ _) rfl (pc_all _ _) ?_; intro wz q hg hz))
    replace h : Fr w wz [(w.heap.size, 26, pc A B), ((w.heap.size + 1), 30, C .u8 b), (g5, 26, pc X Y), (g7, 26, pc M N)] := hq.put (i := 3) rfl q hg
    try rw [hgq]
    clear q hg hz hq hgq
    try simp only [Act.put]
    replace h := h.drew
    refine wp_region_noPanic ?_
    refine wp_region_held_drew (S := fun w' => Row w' g7 26 (pc M N) ∧ Row w' w.heap.size 26 (pc A B)) (by kernel_rfl) ⟨h.row (i := 3) rfl, h.row (i := 0) rfl⟩ (fun hHeld => ?_)
    refine allReadyH_oneL (i := 0) (by kernel_rfl) rfl (by rfl) (fun K hK => ?_)
    go_simp
    refine (alive13_true _ (hE.below h.bel) (hB.below h.bel)).mono ?_
    rintro _ wn ⟨rfl, hb⟩
    replace h := h.below hb
    clear hb
    refine hK.out _ _ ⟨h.row (i := 3) rfl, h.row (i := 0) rfl⟩ (fun hHeld => ?_)
    clear hK K
    refine wpAnyH_takeL (i := 1) (v := ?vt1001) rfl (by kernel_rfl) (by kernel_rfl) (by kernel_rfl) (fun _ _ _ h => h) (by rfl) ?ht1001 (by assumption) ?_
    case ht1001 => intro w hSw; go_simp <;> with_reducible rfl
    simp only [Act.put, List.setIfInBounds_toArray, List.set_cons_zero, List.set_cons_succ]
    refine wpAnyH_takeL (i := 2) (v := ?vt1002) rfl (by kernel_rfl) (by kernel_rfl) (by kernel_rfl) (fun _ _ _ h => h) (by rfl) ?ht1002 (by assumption) ?_
    case ht1002 => intro w hSw; go_simp <;> with_reducible rfl
    simp only [Act.put, List.setIfInBounds_toArray, List.set_cons_zero, List.set_cons_succ]
    refine wpAnyH_takeL (i := 3) (v := ?vt1003) rfl (by kernel_rfl) (by kernel_rfl) (by kernel_rfl) (fun _ _ _ h => h) (by rfl) ?ht1003 (by assumption) ?_
    case ht1003 => intro w hSw; go_simp <;> with_reducible rfl
    simp only [Act.put, List.setIfInBounds_toArray, List.set_cons_zero, List.set_cons_succ]
    refine wpAnyH_takeL (i := 4) (v := ?vt1004) rfl (by kernel_rfl) (by kernel_rfl) (by kernel_rfl) (fun _ _ _ h => h) (by rfl) ?ht1004 (by assumption) ?_
    case ht1004 => intro w hSw; go_simp <;> with_reducible rfl
    simp only [Act.put, List.setIfInBounds_toArray, List.set_cons_zero, List.set_cons_succ]
    refine wpAnyH_takeL (i := 5) (v := (.agg (pc M N).toArray)) rfl (by kernel_rfl) (by kernel_rfl) (by kernel_rfl) (fun _ _ _ h => h) (by rfl) ?ht1005 (by assumption) ?_
    case ht1005 => intro w hSw; exact exec_load_W 26 _ rfl rfl hSw.1 Tryd.underlying26 rfl (iP _ _)
    simp only [Act.put, List.setIfInBounds_toArray, List.set_cons_zero, List.set_cons_succ]
    refine wpAnyH_takeL (i := 6) (v := (.agg (pc A B).toArray)) rfl (by kernel_rfl) (by kernel_rfl) (by kernel_rfl) (fun _ _ _ h => h) (by rfl) ?ht1006 (by assumption) ?_
    case ht1006 => intro w hSw; exact exec_load_W 26 _ rfl rfl hSw.2 Tryd.underlying26 rfl (iP _ _)
    simp only [Act.put, List.setIfInBounds_toArray, List.set_cons_zero, List.set_cons_succ]
    refine wpAnyH_takeL (i := 7) (v := ?vt1007) rfl (by kernel_rfl) (by kernel_rfl) (by kernel_rfl) (fun _ _ _ h => h) (by rfl) ?ht1007 (by assumption) ?_
    case ht1007 => intro w hSw; go_simp <;> with_reducible rfl
    simp only [Act.put, List.setIfInBounds_toArray, List.set_cons_zero, List.set_cons_succ]
    refine wpAnyH_takeL (i := 8) (v := (.agg (pc A B).toArray)) rfl (by kernel_rfl) (by kernel_rfl) (by kernel_rfl) (fun _ _ _ h => h) (by rfl) ?ht1008 (by assumption) ?_
    case ht1008 => intro w hSw; exact exec_load_W 26 _ rfl rfl hSw.2 Tryd.underlying26 rfl (iP _ _)
    simp only [Act.put, List.setIfInBounds_toArray, List.set_cons_zero, List.set_cons_succ]
    refine allReadyH_oneL (i := 9) (by kernel_rfl) rfl (by rfl) (fun K hK => ?_)
    go_simp
    refine (cO _ (hE.below h.bel)).mono ?_
    rintro _ wn ⟨rfl, hb⟩
    replace h := h.below hb
    clear hb
    refine hK.out _ _ ⟨h.row (i := 3) rfl, h.row (i := 0) rfl⟩ (fun hHeld => ?_)
    clear hK K
    refine wpAnyH_takeL (i := 10) (v := ?vt1009) rfl (by kernel_rfl) (by kernel_rfl) (by kernel_rfl) (fun _ _ _ h => h) (by rfl) ?ht1009 (by assumption) ?_
    case ht1009 => intro w hSw; go_simp <;> with_reducible rfl
    simp only [Act.put, List.setIfInBounds_toArray, List.set_cons_zero, List.set_cons_succ]
    refine wpAnyH_takeL (i := 11) (v := ?vt1010) rfl (by kernel_rfl) (by kernel_rfl) (by kernel_rfl) (fun _ _ _ h => h) (by rfl) ?ht1010 (by assumption) ?_
    case ht1010 => intro w hSw; go_simp <;> with_reducible rfl
    simp only [Act.put, List.setIfInBounds_toArray, List.set_cons_zero, List.set_cons_succ]
    refine wpAnyH_takeL (i := 12) (v := ?vt1011) rfl (by kernel_rfl) (by kernel_rfl) (by kernel_rfl) (fun _ _ _ h => h) (by rfl) ?ht1011 (by assumption) ?_
    case ht1011 => intro w hSw; go_simp <;> with_reducible rfl
    simp only [Act.put, List.setIfInBounds_toArray, List.set_cons_zero, List.set_cons_succ]
    refine wpAnyH_done (by kernel_rfl) ?_ _
    refine NoPanic.normal ?_
    go_wp2
    go_ret
    exact ⟨rfl, h.bel⟩
  · obtain ⟨u, u1, u2, u3⟩ := unOk_point hok
    have hu : unC (hiB b) (lowB b) = pv u := by rw [unC, hok, if_pos rfl, pv, u1, u2]
    have cP := pack_pt u
    rw [pk_of hb hl u1 u3] at cP
    have cS := on_pt u
    rw [hu, hok] at c1
    obtain ⟨X, Y, hXY⟩ : ∃ X Y, pv u = pc X Y := ⟨_, _, rfl⟩
    rw [hXY] at c1 cP cS
    clear hXY u1 u2 u3 hu hok hb
    go_enter Tryd.func9, Tryd.ntmps9
    go_upto_region 1 with fail
    try simp only [Act.put, List.setIfInBounds_toArray, List.set_cons_zero, List.set_cons_succ, alloc_size, h2]
    clear h2
    go_wp2_with (refine wpList_load_row rfl 30 _ rfl _ rfl _ _ _ _ (h.row (i := 1) rfl) Tryd.underlying30 rfl hib ?_)
    refine (c1 _ (hR.below h.bel)).mono ?_
    rintro _ wn ⟨rfl, hb⟩
    replace h := h.below hb
    clear hb
    obtain ⟨g5, hgq, hq⟩ := h.more 2 26 (pc 0 0)
    replace hq : Fr w _ [(w.heap.size, 26, pc A B), ((w.heap.size + 1), 30, C .u8 b), (g5, 26, pc 0 0)] := hq
    go_upto_region 2 with (first | refine wpList_alloc_row rfl 26 rfl _ zPw ?_ | (refine wpList_store_R rfl 26 _ _ rfl _ (pc X Y) (congrArg (fun g => Value.pointer (some ⟨g, 0, none⟩)) hgq) rfl (hq.row (i := 2) rfl) (iP _ _) rfl (pc_all _ _) ?_; intro wz q hg hz))
    replace h : Fr w wz [(w.heap.size, 26, pc A B), ((w.heap.size + 1), 30, C .u8 b), (g5, 26, pc X Y)] := hq.put (i := 2) rfl q hg
    try rw [hgq]
    clear q hg hz hq hgq
    try simp only [Act.put]
    replace h := h.drew
    refine wp_region_noPanic ?_
    refine wp_region_held_drew (S := fun w' => Row w' g5 26 (pc X Y) ∧ Row w' (w.heap.size + 1) 30 (C .u8 b)) (by kernel_rfl) ⟨h.row (i := 2) rfl, h.row (i := 1) rfl⟩ (fun hHeld => ?_)
    refine wpAnyH_takeL (i := 0) (v := ?vt1) rfl (by kernel_rfl) (by kernel_rfl) (by kernel_rfl) (fun _ _ _ h => h) (by rfl) ?ht1 (by assumption) ?_
    case ht1 => intro w hSw; go_simp <;> with_reducible rfl
    simp only [Act.put, List.setIfInBounds_toArray, List.set_cons_zero, List.set_cons_succ]
    refine wpAnyH_takeL (i := 1) (v := ?vt2) rfl (by kernel_rfl) (by kernel_rfl) (by kernel_rfl) (fun _ _ _ h => h) (by rfl) ?ht2 (by assumption) ?_
    case ht2 => intro w hSw; go_simp <;> with_reducible rfl
    simp only [Act.put, List.setIfInBounds_toArray, List.set_cons_zero, List.set_cons_succ]
    refine wpAnyH_takeL (i := 2) (v := (.agg (pc X Y).toArray)) rfl (by kernel_rfl) (by kernel_rfl) (by kernel_rfl) (fun _ _ _ h => h) (by rfl) ?ht3 (by assumption) ?_
    case ht3 => intro w hSw; exact exec_load_W 26 _ rfl rfl hSw.1 Tryd.underlying26 rfl (iP _ _)
    simp only [Act.put, List.setIfInBounds_toArray, List.set_cons_zero, List.set_cons_succ]
    refine allReadyH_oneL (i := 3) (by kernel_rfl) rfl (by rfl) (fun K hK => ?_)
    go_simp
    refine (cS _ (hE.below h.bel)).mono ?_
    rintro _ wn ⟨rfl, hb⟩
    replace h := h.below hb
    clear hb
    refine hK.out _ _ ⟨h.row (i := 2) rfl, h.row (i := 1) rfl⟩ (fun hHeld => ?_)
    clear hK K
    refine wpAnyH_takeL (i := 4) (v := ?vt4) rfl (by kernel_rfl) (by kernel_rfl) (by kernel_rfl) (fun _ _ _ h => h) (by rfl) ?ht4 (by assumption) ?_
    case ht4 => intro w hSw; go_simp <;> with_reducible rfl
    simp only [Act.put, List.setIfInBounds_toArray, List.set_cons_zero, List.set_cons_succ]
    refine wpAnyH_takeL (i := 5) (v := ?vt5) rfl (by kernel_rfl) (by kernel_rfl) (by kernel_rfl) (fun _ _ _ h => h) (by rfl) ?ht5 (by assumption) ?_
    case ht5 => intro w hSw; go_simp <;> with_reducible rfl
    simp only [Act.put, List.setIfInBounds_toArray, List.set_cons_zero, List.set_cons_succ]
    refine wpAnyH_takeL (i := 6) (v := (.agg (pc X Y).toArray)) rfl (by kernel_rfl) (by kernel_rfl) (by kernel_rfl) (fun _ _ _ h => h) (by rfl) ?ht6 (by assumption) ?_
    case ht6 => intro w hSw; exact exec_load_W 26 _ rfl rfl hSw.1 Tryd.underlying26 rfl (iP _ _)
    simp only [Act.put, List.setIfInBounds_toArray, List.set_cons_zero, List.set_cons_succ]
    refine wpAnyH_takeL (i := 8) (v := (.agg (C .u8 b).toArray)) rfl (by kernel_rfl) (by kernel_rfl) (by kernel_rfl) (fun _ _ _ h => h) (by rfl) ?ht7 (by assumption) ?_
    case ht7 => intro w hSw; exact exec_load_W 30 _ rfl rfl hSw.2 Tryd.underlying30 rfl hib
    simp only [Act.put, List.setIfInBounds_toArray, List.set_cons_zero, List.set_cons_succ]
    refine allReadyH_oneL (i := 7) (by kernel_rfl) rfl (by rfl) (fun K hK => ?_)
    go_simp
    refine (cP _ (hE.below h.bel)).mono ?_
    rintro _ wn ⟨rfl, hb⟩
    replace h := h.below hb
    clear hb
    refine hK.out _ _ ⟨h.row (i := 2) rfl, h.row (i := 1) rfl⟩ (fun hHeld => ?_)
    clear hK K
    refine wpAnyH_takeL (i := 9) (v := ?vt8) rfl (by kernel_rfl) (by kernel_rfl) (by kernel_rfl) (fun _ _ _ h => h) (by rfl) ?ht8 (by assumption) ?_
    case ht8 => intro w hSw; go_simp <;> with_reducible rfl
    simp only [Act.put, List.setIfInBounds_toArray, List.set_cons_zero, List.set_cons_succ]
    refine wpAnyH_takeL (i := 10) (v := ?vt9) rfl (by kernel_rfl) (by kernel_rfl) (by kernel_rfl) (fun _ _ _ h => h) (by rfl) ?ht9 (by assumption) ?_
    case ht9 => intro w hSw; go_simp <;> with_reducible rfl
    simp only [Act.put, List.setIfInBounds_toArray, List.set_cons_zero, List.set_cons_succ]
    refine wpAnyH_takeL (i := 11) (v := ?vt10) rfl (by kernel_rfl) (by kernel_rfl) (by kernel_rfl) (fun _ _ _ h => h) (by rfl) ?ht10 (by assumption) ?_
    case ht10 => intro w hSw; go_simp <;> with_reducible rfl
    simp only [Act.put, List.setIfInBounds_toArray, List.set_cons_zero, List.set_cons_succ]
    refine wpAnyH_takeL (i := 12) (v := ?vt11) rfl (by kernel_rfl) (by kernel_rfl) (by kernel_rfl) (fun _ _ _ h => h) (by rfl) ?ht11 (by assumption) ?_
    case ht11 => intro w hSw; go_simp <;> with_reducible rfl
    simp only [Act.put, List.setIfInBounds_toArray, List.set_cons_zero, List.set_cons_succ]
    refine wpAnyH_takeL (i := 13) (v := ?vt12) rfl (by kernel_rfl) (by kernel_rfl) (by kernel_rfl) (fun _ _ _ h => h) (by rfl) ?ht12 (by assumption) ?_
    case ht12 => intro w hSw; go_simp <;> with_reducible rfl
    simp only [Act.put, List.setIfInBounds_toArray, List.set_cons_zero, List.set_cons_succ]
    refine wpAnyH_takeL (i := 14) (v := ?vt13) rfl (by kernel_rfl) (by kernel_rfl) (by kernel_rfl) (fun _ _ _ h => h) (by rfl) ?ht13 (by assumption) ?_
    case ht13 => intro w hSw; go_simp <;> with_reducible rfl
    simp only [Act.put, List.setIfInBounds_toArray, List.set_cons_zero, List.set_cons_succ]
    refine wpAnyH_takeL (i := 15) (v := ?vt14) rfl (by kernel_rfl) (by kernel_rfl) (by kernel_rfl) (fun _ _ _ h => h) (by rfl) ?ht14 (by assumption) ?_
    case ht14 => intro w hSw; go_simp <;> with_reducible rfl
    simp only [Act.put, List.setIfInBounds_toArray, List.set_cons_zero, List.set_cons_succ]
    refine wpAnyH_skipL (i := 16) rfl (by kernel_rfl) (by kernel_rfl) (by kernel_rfl) (fun _ _ _ h => h) (by rfl) (by assumption) ?_
    simp only [Act.put, List.setIfInBounds_toArray, List.set_cons_zero, List.set_cons_succ]
    refine wpAnyH_skipL (i := 17) rfl (by kernel_rfl) (by kernel_rfl) (by kernel_rfl) (fun _ _ _ h => h) (by rfl) (by assumption) ?_
    simp only [Act.put, List.setIfInBounds_toArray, List.set_cons_zero, List.set_cons_succ]
    refine wpAnyH_skipL (i := 18) rfl (by kernel_rfl) (by kernel_rfl) (by kernel_rfl) (fun _ _ _ h => h) (by rfl) (by assumption) ?_
    simp only [Act.put, List.setIfInBounds_toArray, List.set_cons_zero, List.set_cons_succ]
    refine wpAnyH_takeL (i := 19) (v := ?vt18) rfl (by kernel_rfl) (by kernel_rfl) (by kernel_rfl) (fun _ _ _ h => h) (by rfl) ?ht18 (by assumption) ?_
    case ht18 => intro w hSw; go_simp <;> with_reducible rfl
    simp only [Act.put, List.setIfInBounds_toArray, List.set_cons_zero, List.set_cons_succ]
    refine wpAnyH_takeL (i := 20) (v := ?vt19) rfl (by kernel_rfl) (by kernel_rfl) (by kernel_rfl) (fun _ _ _ h => h) (by rfl) ?ht19 (by assumption) ?_
    case ht19 => intro w hSw; go_simp <;> with_reducible rfl
    simp only [Act.put, List.setIfInBounds_toArray, List.set_cons_zero, List.set_cons_succ]
    refine wpAnyH_done (by kernel_rfl) ?_ _
    refine NoPanic.normal ?_
    go_upto_region 4 with fail
    try simp only [Act.put, List.setIfInBounds_toArray, List.set_cons_zero, List.set_cons_succ]
    go_wp2_with (refine wpList_load_row rfl 26 _ rfl _ rfl _ _ _ _ (h.row (i := 0) rfl) Tryd.underlying26 rfl (iP _ _) ?_)
    refine (c2 _ (hE.below h.bel)).mono ?_
    rintro _ wn ⟨rfl, hb⟩
    replace h := h.below hb
    clear hb
    go_wp2_with fail
    refine (c3 _ (hR.below h.bel)).mono ?_
    rintro _ wn ⟨rfl, hb⟩
    replace h := h.below hb
    clear hb
    obtain ⟨g7, hgq, hq⟩ := h.more 3 26 (pc 0 0)
    replace hq : Fr w _ [(w.heap.size, 26, pc A B), ((w.heap.size + 1), 30, C .u8 b), (g5, 26, pc X Y), (g7, 26, pc 0 0)] := hq
    go_upto_region 5 with (first | refine wpList_alloc_row rfl 26 rfl _ zPw ?_ | (refine wpList_store_R rfl 26 _ _ rfl _ (pc M N) (congrArg (fun g => Value.pointer (some ⟨g, 0, none⟩)) hgq) rfl (hq.row (i := 3) rfl) (iP _ _) rfl (pc_all _ _) ?_; intro wz q hg hz))
    replace h : Fr w wz [(w.heap.size, 26, pc A B), ((w.heap.size + 1), 30, C .u8 b), (g5, 26, pc X Y), (g7, 26, pc M N)] := hq.put (i := 3) rfl q hg
    try rw [hgq]
    clear q hg hz hq hgq
    try simp only [Act.put]
    replace h := h.drew
    refine wp_region_noPanic ?_
    refine wp_region_held_drew (S := fun w' => Row w' g7 26 (pc M N) ∧ Row w' w.heap.size 26 (pc A B)) (by kernel_rfl) ⟨h.row (i := 3) rfl, h.row (i := 0) rfl⟩ (fun hHeld => ?_)
    refine allReadyH_oneL (i := 0) (by kernel_rfl) rfl (by rfl) (fun K hK => ?_)
    go_simp
    refine (alive13_true _ (hE.below h.bel) (hB.below h.bel)).mono ?_
    rintro _ wn ⟨rfl, hb⟩
    replace h := h.below hb
    clear hb
    refine hK.out _ _ ⟨h.row (i := 3) rfl, h.row (i := 0) rfl⟩ (fun hHeld => ?_)
    clear hK K
    refine wpAnyH_takeL (i := 1) (v := ?vt1501) rfl (by kernel_rfl) (by kernel_rfl) (by kernel_rfl) (fun _ _ _ h => h) (by rfl) ?ht1501 (by assumption) ?_
    case ht1501 => intro w hSw; go_simp <;> with_reducible rfl
    simp only [Act.put, List.setIfInBounds_toArray, List.set_cons_zero, List.set_cons_succ]
    refine wpAnyH_takeL (i := 2) (v := ?vt1502) rfl (by kernel_rfl) (by kernel_rfl) (by kernel_rfl) (fun _ _ _ h => h) (by rfl) ?ht1502 (by assumption) ?_
    case ht1502 => intro w hSw; go_simp <;> with_reducible rfl
    simp only [Act.put, List.setIfInBounds_toArray, List.set_cons_zero, List.set_cons_succ]
    refine wpAnyH_takeL (i := 3) (v := ?vt1503) rfl (by kernel_rfl) (by kernel_rfl) (by kernel_rfl) (fun _ _ _ h => h) (by rfl) ?ht1503 (by assumption) ?_
    case ht1503 => intro w hSw; go_simp <;> with_reducible rfl
    simp only [Act.put, List.setIfInBounds_toArray, List.set_cons_zero, List.set_cons_succ]
    refine wpAnyH_takeL (i := 4) (v := ?vt1504) rfl (by kernel_rfl) (by kernel_rfl) (by kernel_rfl) (fun _ _ _ h => h) (by rfl) ?ht1504 (by assumption) ?_
    case ht1504 => intro w hSw; go_simp <;> with_reducible rfl
    simp only [Act.put, List.setIfInBounds_toArray, List.set_cons_zero, List.set_cons_succ]
    refine wpAnyH_takeL (i := 5) (v := (.agg (pc M N).toArray)) rfl (by kernel_rfl) (by kernel_rfl) (by kernel_rfl) (fun _ _ _ h => h) (by rfl) ?ht1505 (by assumption) ?_
    case ht1505 => intro w hSw; exact exec_load_W 26 _ rfl rfl hSw.1 Tryd.underlying26 rfl (iP _ _)
    simp only [Act.put, List.setIfInBounds_toArray, List.set_cons_zero, List.set_cons_succ]
    refine wpAnyH_takeL (i := 6) (v := (.agg (pc A B).toArray)) rfl (by kernel_rfl) (by kernel_rfl) (by kernel_rfl) (fun _ _ _ h => h) (by rfl) ?ht1506 (by assumption) ?_
    case ht1506 => intro w hSw; exact exec_load_W 26 _ rfl rfl hSw.2 Tryd.underlying26 rfl (iP _ _)
    simp only [Act.put, List.setIfInBounds_toArray, List.set_cons_zero, List.set_cons_succ]
    refine wpAnyH_takeL (i := 7) (v := ?vt1507) rfl (by kernel_rfl) (by kernel_rfl) (by kernel_rfl) (fun _ _ _ h => h) (by rfl) ?ht1507 (by assumption) ?_
    case ht1507 => intro w hSw; go_simp <;> with_reducible rfl
    simp only [Act.put, List.setIfInBounds_toArray, List.set_cons_zero, List.set_cons_succ]
    refine wpAnyH_takeL (i := 8) (v := (.agg (pc A B).toArray)) rfl (by kernel_rfl) (by kernel_rfl) (by kernel_rfl) (fun _ _ _ h => h) (by rfl) ?ht1508 (by assumption) ?_
    case ht1508 => intro w hSw; exact exec_load_W 26 _ rfl rfl hSw.2 Tryd.underlying26 rfl (iP _ _)
    simp only [Act.put, List.setIfInBounds_toArray, List.set_cons_zero, List.set_cons_succ]
    refine allReadyH_oneL (i := 9) (by kernel_rfl) rfl (by rfl) (fun K hK => ?_)
    go_simp
    refine (cO _ (hE.below h.bel)).mono ?_
    rintro _ wn ⟨rfl, hb⟩
    replace h := h.below hb
    clear hb
    refine hK.out _ _ ⟨h.row (i := 3) rfl, h.row (i := 0) rfl⟩ (fun hHeld => ?_)
    clear hK K
    refine wpAnyH_takeL (i := 10) (v := ?vt1509) rfl (by kernel_rfl) (by kernel_rfl) (by kernel_rfl) (fun _ _ _ h => h) (by rfl) ?ht1509 (by assumption) ?_
    case ht1509 => intro w hSw; go_simp <;> with_reducible rfl
    simp only [Act.put, List.setIfInBounds_toArray, List.set_cons_zero, List.set_cons_succ]
    refine wpAnyH_takeL (i := 11) (v := ?vt1510) rfl (by kernel_rfl) (by kernel_rfl) (by kernel_rfl) (fun _ _ _ h => h) (by rfl) ?ht1510 (by assumption) ?_
    case ht1510 => intro w hSw; go_simp <;> with_reducible rfl
    simp only [Act.put, List.setIfInBounds_toArray, List.set_cons_zero, List.set_cons_succ]
    refine wpAnyH_takeL (i := 12) (v := ?vt1511) rfl (by kernel_rfl) (by kernel_rfl) (by kernel_rfl) (fun _ _ _ h => h) (by rfl) ?ht1511 (by assumption) ?_
    case ht1511 => intro w hSw; go_simp <;> with_reducible rfl
    simp only [Act.put, List.setIfInBounds_toArray, List.set_cons_zero, List.set_cons_succ]
    refine wpAnyH_done (by kernel_rfl) ?_ _
    refine NoPanic.normal ?_
    go_wp2
    go_ret
    exact ⟨rfl, h.bel⟩

set_option maxRecDepth 100000 in
theorem lifted (os : Os) (started : os.Started) (H : Type) (enc : TypeId × Value → H) :
    ReturnsInHanded {} Tryd.checked os 9 .any (fun w args => (Rows.edwardsBackSpec.pre enc Tryd.prog Tryd.f9 [] false w args ∧ laidMetH Tryd.prog L6.laid1 w) ∧ sizedMet enc Tryd.prog Tryd.f9 (OpenSpec.ofChange Rows.edwardsBackSpec) false w args) (Rows.edwardsBackSpec.post enc Tryd.prog Tryd.f9 false true false false) := by
  refine returnsInHanded_of_change_and (C := Tryd.checked) (X := fun w _ => laidMetH Tryd.prog L6.laid1 w) (fun _ _ _ hh h => h.of_heap hh) own started (by kernel_rfl) Tryd.func9
    (ChangeSpec.witness_shaped (enc := enc) (C := Tryd.checked) (os := os) (X := fun w _ => laidMetH Tryd.prog L6.laid1 w) false (World.doorLaid Tryd.prog 400 os) #[.agg (C .u64 (Z 8)).toArray, .agg (C .u8 (Z 32)).toArray] 8 rfl (World.shaped_of_RefB (by kernel_rfl) (by kernel_rfl)) (by kernel_rfl) (by kernel_rfl) (by kernel_rfl) (L6.door_met os _)) ?_
  intro W base args ds gs before hval0 hW _ _ hLd _
  have hval : ∀ (j : Nat) t v, Tryd.f9.params[j]? = some t → args[j]? = some v → Value.okWide Tryd.prog W .any base t v := hval0
  have hW' := hW
  obtain ⟨p, q, hA0, hV, rfl, hfz, hnd⟩ := hW
  have hA : DataW.TrodAll enc Tryd.prog W 0 (fun _ => true) true Tryd.f9.params.toList args.toList ds p := hA0
  rw [Tryd.params9] at hA hval
  obtain ⟨v0, vs0, d0, ds0, p0, q0, hargs, rfl, rfl, h0, r0⟩ := trodAll_cons hA
  obtain ⟨v1, vs1, d1, ds1, p1, q1, rfl, rfl, rfl, h1, r1⟩ := trodAll_cons r0
  obtain ⟨rfl, rfl, rfl⟩ := trodAll_nil r1
  obtain rfl : args = #[v0, v1] := by cases args; simp_all
  obtain ⟨rfl, rfl⟩ := trodVars_none hV
  have k0 := h0
  have lt0 : ∀ x ∈ p0, x.block < W.heap.size := by obtain ⟨m, hm⟩ := k0; exact DataW.trod_lt m _ _ _ hm
  have k1 := h1
  have lt1 : ∀ x ∈ p1, x.block < W.heap.size := by obtain ⟨m, hm⟩ := k1; exact DataW.trod_lt m _ _ _ hm
  obtain ⟨n0, m0, b0, c0, rfl⟩ := open_point (hval 0 26 v0 rfl rfl) h0
  obtain ⟨z1, rfl, hl1, hz1⟩ := open_array Tryd.underlying30 Tryd.underlying5 (by kernel_rfl) (by kernel_rfl) (hval 1 30 v1 rfl rfl) h1
  obtain ⟨n1, e1, l1, b1⟩ := arr_bytes hz1
  rw [e1] at hW' ⊢
  rw [e1] at k1
  clear hA0 hval0
  refine (walk n0 m0 b0 c0 n1 b1 (l1.trans hl1) W (L6.of_laid hLd).1 (L6.of_laid hLd).2).mono fun e W' ⟨he, bel⟩ => ?_
  subst he
  exact ⟨_, rfl, _, _, _, [], _, [], hW', trodAll_mk1 (shut_bool Tryd.underlying4 _), (trodAll_cons_mk (Below.trod laidOut (by kernel_rfl) (of_decide_eq_true (by kernel_rfl)) k0 bel lt0) (trodAll_cons_mk (Below.trod laidOut (by kernel_rfl) (of_decide_eq_true (by kernel_rfl)) k1 bel lt1) trodAll_mk0)), rfl, bel.frame _, fun h => by cases h⟩

theorem over : Rows.edwardsBackRow.holds Tryd.pinned (OpenSpec.ofChange Rows.edwardsBackSpec) :=
  OpenClaim.holds_of_wide 9 Tryd.f9 rfl rfl rfl rfl rfl rfl rfl ⟨rfl, rfl, rfl, rfl, rfl⟩ rfl rfl rfl rfl rfl (by kernel_rfl) Tryd.func9 (by kernel_rfl)
    (of_decide_eq_true (by kernel_rfl)) (by unfold Func.isWrapper; first | (rw [if_pos (by decide +kernel)]; kernel_rfl) | (rw [if_neg (by decide +kernel)]; exact ⟨rfl, rfl⟩))
    (fun os started H enc _ => lifted os started H enc)

end Go.Proofs.YthjlbcbkllaicaaDoor.edwardsBack
namespace Go.Proofs.YthjlbcbkllaicaaDoor
/-- The given statement. -/
theorem edwardsBack_proved : Rows.EdwardsBackCardSaid :=
  Claim7.holds_tied_plain_at .later [] [.data, .data, .data, .data, .data, .data] true (true, "6c81ab964824856677c0d2b71b16e379ba1f889a55ffe6000620aa7cdde3cb5a") false
    edwardsBack.over (fun _ h => by cases h) (by kernel_rfl) (fun _ h => by cases h) edwardsBack_row_tie rfl ⟨rfl, rfl⟩ (by kernel_rfl) rfl
    (fun f fn hf hfn => by
      obtain rfl : f = 9 := Option.some.inj ((show Tryd.prog.funcNamed "affiant/affiantlaw13.EdwardsBack" = some 9 by kernel_rfl).symm.trans hf) |>.symm
      obtain rfl : fn = Tryd.f9 := (Option.some.inj (Tryd.func9.symm.trans hfn)).symm
      exact ⟨by kernel_rfl, fun j t ht => by
        rw [Tryd.params9] at ht
        have hm : t ∈ ([26, 30] : List TypeId) := by simpa using Array.mem_of_getElem? ht
        have hall : (([26, 30] : List TypeId).all fun u => !Tryd.prog.wantsStandIn u) = true := by kernel_rfl
        exact (show Tryd.prog.wantsStandIn t = false by simpa using List.all_eq_true.1 hall t hm)⟩)
    (by kernel_rfl)
end Go.Proofs.YthjlbcbkllaicaaDoor
