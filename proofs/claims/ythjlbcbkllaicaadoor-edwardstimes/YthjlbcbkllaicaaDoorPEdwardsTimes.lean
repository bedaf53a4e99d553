/-
  Proved: for every two arrays a, b of four 64-bit words and every point p (of whatever two numbers) the law EdwardsTimes returns true, and its arguments read as before. No conditions of ours; the packages' variables start as their initialisers lay them, as the given card ties it.
-/
import Derived.Test.YthjlbcbkllaicaaDoorRows
import Derived.Test.YthjlbcbkllaicaaDoorCards
import Derived.Test.YthjlbcbkllaicaaDoorTie
import Derived.SevenTiedAt
import Derived.Test.YthjlbcbkllaicaaDoorEpT
import Derived.WalkKit
import Derived.ProofKit
import Derived.OpenShut
import Derived.ShutString
import Derived.ChangeOld
import Derived.Below
namespace Go.Proofs.YthjlbcbkllaicaaDoor.edwardsTimes
open Go.ChangeShapes Go.WideShapes Go.ChangeAt Go.RowKit
open F
open E (Pt padd pmul)
set_option linter.unusedVariables false
set_option maxRecDepth 10000

theorem own : ownKnob Tryd.prog.godebug = none := by kernel_rfl
theorem laidOut : laidOutB Tryd.prog = true := by kernel_rfl

theorem bO : Tryd.prog.built 24 [(0, .int .u64 6346243789798364141), (1, .int .u64 1503914060200516822), (2, .int .u64 0), (3, .int .u64 1152921504606846976)] = some (ec E.L).toArray := by kernel_rfl
theorem order12 (w : World) : Calls Tryd.prog 29 #[] w fun e w' => e = .returned (.agg (ec E.L).toArray) ∧ Below w.heap.size w w' := by
  have h := Fr.one w 24 (ec 0)
  go_enter Tryd.func29, Tryd.ntmps29
  go_wp2_with (first | refine wpList_alloc_row rfl 24 rfl _ z4w ?_ | refine wpList_build_C rfl 24 _ rfl _ bO ?_ | (refine wpList_store_R rfl 24 _ _ rfl _ (ec E.L) rfl rfl (h.row (i := 0) rfl) (ie4 _) rfl (ec_all _) ?_; intro wz q hg hz))
  replace h : Fr w wz [(w.heap.size, 24, ec E.L)] := h.put (i := 0) rfl q hg
  exact result_row Tryd.results29 rfl (h.row (i := 0) rfl) Tryd.underlying24 rfl (ie4 _) rfl ⟨rfl, h.bel⟩
theorem eight_any (w : World) : Calls Tryd.prog 28 #[] w fun e w' => e = .returned (.agg (ec (8 * E.L)).toArray) ∧ Below w.heap.size w w' := by
  have h := Fr.one w 24 (ec 0)
  have hL : wds E.L = [6346243789798364141, 1503914060200516822, 0, 1152921504606846976] := by decide +kernel
  have h8 : Away (wds (8 * E.L) = [13876462170967809896, 12031312481604134578, 0, 9223372036854775808]) := ⟨by decide +kernel⟩
  obtain ⟨LL, hLL⟩ : ∃ x, E.L = x := ⟨_, rfl⟩
  have cL := order12
  rw [hLL] at cL hL
  have b0 : IntKind.u64.wrap 50769950318386913128 = 13876462170967809896 := by decide +kernel
  have b1 : bits .or .u64 12031312481604134576 2 = 12031312481604134578 := by decide +kernel
  have b2 : bits .or .u64 0 0 = 0 := by decide +kernel
  have b3 : bits .or .u64 9223372036854775808 0 = 9223372036854775808 := by decide +kernel
  obtain ⟨L8, hL8⟩ : ∃ x, 8 * E.L = x := ⟨_, rfl⟩
  rw [hL8] at h8 ⊢
  clear hLL hL8
  go_enter Tryd.func28, Tryd.ntmps28
  go_upto_region 1 with (refine wpList_alloc_row rfl 24 rfl _ z4w ?_)
  go_wp2_with fail
  refine (cL _).mono ?_
  rintro _ wn ⟨rfl, hb⟩
  replace h := h.below hb
  clear hb
  obtain ⟨g1, hgq, hq⟩ := h.more 1 24 (ec 0)
  replace hq : Fr w _ [(w.heap.size, 24, ec 0), (g1, 24, ec 0)] := hq
  go_upto_region 2 with (first | refine wpList_alloc_row rfl 24 rfl _ z4w ?_ | (refine wpList_store_R rfl 24 _ _ rfl _ (ec LL) (congrArg (fun g => Value.pointer (some ⟨g, 0, none⟩)) hgq) rfl (hq.row (i := 1) rfl) (ie4 _) rfl (ec_all _) ?_; intro wz q hg hz))
  replace h : Fr w wz [(w.heap.size, 24, ec 0), (g1, 24, ec LL)] := hq.put (i := 1) rfl q hg
  try rw [hgq]
  clear q hg hz hq hgq
  have q0 := (h.row (i := 1) rfl).cell 0
  rw [show (ec LL)[0]? = some (.int .u64 6346243789798364141) by rw [ec, hL]; rfl] at q0
  have q1 := (h.row (i := 1) rfl).cell 1
  rw [show (ec LL)[1]? = some (.int .u64 1503914060200516822) by rw [ec, hL]; rfl] at q1
  have q2 := (h.row (i := 1) rfl).cell 2
  rw [show (ec LL)[2]? = some (.int .u64 0) by rw [ec, hL]; rfl] at q2
  have q3 := (h.row (i := 1) rfl).cell 3
  rw [show (ec LL)[3]? = some (.int .u64 1152921504606846976) by rw [ec, hL]; rfl] at q3
  go_wp2_with (refine wpList_store_R rfl 24 _ _ rfl _ (ec L8) rfl (by show _ = Value.agg (C .u64 (wds L8)).toArray; rw [h8.out]; rfl) (h.row (i := 0) rfl) (ie4 _) rfl (ec_all _) ?_; intro wz q hg hz)
  replace h : Fr w wz [(w.heap.size, 24, ec L8), (g1, 24, ec LL)] := h.put (i := 0) rfl q hg
  exact result_row Tryd.results28 rfl (h.row (i := 0) rfl) Tryd.underlying24 rfl (ie4 _) rfl ⟨rfl, h.bel⟩
theorem addRaw (p : Pt) (M N : Nat) (lM : M < 115792089237316195423570985008687907853269984665640564039457584007913129639936) (lN : N < 115792089237316195423570985008687907853269984665640564039457584007913129639936) (w : World) (hI : TI w) : Calls Tryd.prog 22 #[.agg (pv p).toArray, .agg (pc M N).toArray] w fun e w' => e = .returned (.agg (pv (padd p (ownP M N))).toArray) ∧ Below w.heap.size w w' := by
  have h := add_any p.x.val p.y.val M N (ptx_lt p) (pty_lt p) lM lN w hI
  rw [ownP_val] at h
  exact h
theorem mul_base (k : Nat) (lk : k < 115792089237316195423570985008687907853269984665640564039457584007913129639936) (w : World) (hI : TI w) : Calls Tryd.prog 24 #[.agg (ec k).toArray, .agg (pv Bpt).toArray] w fun e w' => e = .returned (.agg (pv (pmul k Bpt)).toArray) ∧ Below w.heap.size w w' := by
  have h := mul_any k Bpt.x.val Bpt.y.val lk (ptx_lt _) (pty_lt _) w hI
  rw [ownP_val] at h
  exact h
theorem Bpt_same : Bpt = E.Bp := Pt.same (Fin.ext (Bpt_x.trans (by decide +kernel))) (Fin.ext (Bpt_y.trans (by decide +kernel)))
theorem L_base : pmul E.L Bpt = Pt.zero := by rw [Bpt_same]; exact E.B_order
set_option maxHeartbeats 8000000 in
theorem gen (k k8 kL A B : Nat) (lA : A < 115792089237316195423570985008687907853269984665640564039457584007913129639936) (lB : B < 115792089237316195423570985008687907853269984665640564039457584007913129639936) (X1 X2 Y1 Y2 T1 T2 V1 V2 Z1 Z2 Q1 Q2 B1 B2 K1 k0 k2 k3 : Nat)
    (x0 x1 x2 x3 x3' : Nat) (hk : wds k = [x0, x1, x2, x3]) (hK1 : wds K1 = [x0, x1, x2, x3']) (ha : bits .and .u64 (x3 : Int) 4611686018427387903 = (x3' : Int))
    (s0 s1 s2 s3 d0 d1 d2 y1 y2 y3 z0 : Nat) (eS0 : IntKind.u64.wrap ((x0 : Int) * 2) = (s0 : Int)) (eS1 : IntKind.u64.wrap ((x1 : Int) * 2) = (s1 : Int)) (eS2 : IntKind.u64.wrap ((x2 : Int) * 2) = (s2 : Int)) (eS3 : IntKind.u64.wrap ((x3' : Int) * 2) = (s3 : Int))
    (eD0 : (x0 : Int) / 9223372036854775808 = (d0 : Int)) (eD1 : (x1 : Int) / 9223372036854775808 = (d1 : Int)) (eD2 : (x2 : Int) / 9223372036854775808 = (d2 : Int))
    (eO1 : bits .or .u64 (s1 : Int) (d0 : Int) = (y1 : Int)) (eO2 : bits .or .u64 (s2 : Int) (d1 : Int) = (y2 : Int)) (eO3 : bits .or .u64 (s3 : Int) (d2 : Int) = (y3 : Int)) (eZ : bits .or .u64 (s0 : Int) 1 = (z0 : Int))
    (hk2 : wds k2 = [s0, y1, y2, y3]) (hk3 : wds k3 = [z0, y1, y2, y3])
    (cZ : ∀ (w : World), Calls Tryd.prog 18 #[] w fun e w' => e = .returned (.agg (pc Z1 Z2).toArray) ∧ Below w.heap.size w w')
    (cB : ∀ (w : World), TB w → Calls Tryd.prog 20 #[] w fun e w' => e = .returned (.agg (pc Q1 Q2).toArray) ∧ Below w.heap.size w w')
    (c8 : ∀ (w : World), Calls Tryd.prog 28 #[] w fun e w' => e = .returned (.agg (ec k8).toArray) ∧ Below w.heap.size w w')
    (cL : ∀ (w : World), Calls Tryd.prog 29 #[] w fun e w' => e = .returned (.agg (ec kL).toArray) ∧ Below w.heap.size w w')
    (cH : ∀ (w : World), TI w → Calls Tryd.prog 30 #[.agg (ec K1).toArray, .agg (pc A B).toArray, .agg (ec k0).toArray, .agg (pc A B).toArray] w fun e w' => e = .returned (.agg (pc B1 B2).toArray) ∧ Below w.heap.size w w')
    (m1 : ∀ (w : World), TI w → Calls Tryd.prog 24 #[.agg (ec K1).toArray, .agg (pc A B).toArray] w fun e w' => e = .returned (.agg (pc X1 X2).toArray) ∧ Below w.heap.size w w')
    (m2 : ∀ (w : World), TI w → Calls Tryd.prog 24 #[.agg (ec k0).toArray, .agg (pc A B).toArray] w fun e w' => e = .returned (.agg (pc Y1 Y2).toArray) ∧ Below w.heap.size w w')
    (m3 : ∀ (w : World), TI w → Calls Tryd.prog 24 #[.agg (ec k2).toArray, .agg (pc A B).toArray] w fun e w' => e = .returned (.agg (pc T1 T2).toArray) ∧ Below w.heap.size w w')
    (m4 : ∀ (w : World), TI w → Calls Tryd.prog 24 #[.agg (ec k3).toArray, .agg (pc A B).toArray] w fun e w' => e = .returned (.agg (pc V1 V2).toArray) ∧ Below w.heap.size w w')
    (m5 : ∀ (w : World), TI w → Calls Tryd.prog 24 #[.agg (ec k8).toArray, .agg (pc A B).toArray] w fun e w' => e = .returned (.agg (pc Z1 Z2).toArray) ∧ Below w.heap.size w w')
    (m6 : ∀ (w : World), TI w → Calls Tryd.prog 24 #[.agg (ec kL).toArray, .agg (pc Q1 Q2).toArray] w fun e w' => e = .returned (.agg (pc Z1 Z2).toArray) ∧ Below w.heap.size w w')
    (a1 : ∀ (w : World), TI w → Calls Tryd.prog 22 #[.agg (pc X1 X2).toArray, .agg (pc X1 X2).toArray] w fun e w' => e = .returned (.agg (pc T1 T2).toArray) ∧ Below w.heap.size w w')
    (a2 : ∀ (w : World), TI w → Calls Tryd.prog 22 #[.agg (pc T1 T2).toArray, .agg (pc A B).toArray] w fun e w' => e = .returned (.agg (pc V1 V2).toArray) ∧ Below w.heap.size w w')
    (a3 : ∀ (w : World), TI w → Calls Tryd.prog 22 #[.agg (pc X1 X2).toArray, .agg (pc Y1 Y2).toArray] w fun e w' => e = .returned (.agg (pc B1 B2).toArray) ∧ Below w.heap.size w w')
    (sT : ∀ w, (Op.equalIn 10000 26 (.agg (pc T1 T2).toArray) (.agg (pc T1 T2).toArray)).run Tryd.prog w = .ok true w)
    (sV : ∀ w, (Op.equalIn 10000 26 (.agg (pc V1 V2).toArray) (.agg (pc V1 V2).toArray)).run Tryd.prog w = .ok true w)
    (sZ : ∀ w, (Op.equalIn 10000 26 (.agg (pc Z1 Z2).toArray) (.agg (pc Z1 Z2).toArray)).run Tryd.prog w = .ok true w)
    (sB : ∀ w, (Op.equalIn 10000 26 (.agg (pc B1 B2).toArray) (.agg (pc B1 B2).toArray)).run Tryd.prog w = .ok true w)
    (w : World) (hI : TI w) (hB : TB w) : Calls Tryd.prog 8 #[.agg (ec k).toArray, .agg (ec k0).toArray, .agg (pc A B).toArray] w fun e w' => e = .returned (.bool true) ∧ Below w.heap.size w w' := by
  obtain ⟨w2, h2, h⟩ := Fr.three w 24 24 26 (ec k) (ec k0) (pc A B)
  have hE := hI.e
  have c3 := (h.row (i := 0) rfl).cell 3
  rw [show (ec k)[3]? = some (.int .u64 (x3 : Int)) by rw [ec, hk]; rfl] at c3
  have f3 := (h.row (i := 0) rfl).frozen 3
  have m0 := row_set (h.row (i := 0) rfl) 3 x3'
  rw [show (wds k).set 3 x3' = wds K1 by rw [hk, hK1]; rfl] at m0
  replace h : Fr w (w2.setCell ⟨w.heap.size, 3, none⟩ (.int .u64 (x3' : Int))) [(w.heap.size, 24, ec K1), ((w.heap.size + 1), 24, ec k0), ((w.heap.size + 1 + 1), 26, pc A B)] := h.put (i := 0) rfl m0 (grown_set _ _ _ _)
  go_enter Tryd.func8, Tryd.ntmps8
  go_upto_region 1 with fail
  try simp only [Act.put, List.setIfInBounds_toArray, List.set_cons_zero, List.set_cons_succ, alloc_size, h2]
  clear h2
  go_upto_region 2 with fail
  clear c3 f3 m0 ha
  generalize w2.setCell ⟨w.heap.size, 3, none⟩ (.int .u64 (x3' : Int)) = w3 at *
  replace h := h.drew
  refine wp_region_inv (by kernel_rfl) (fun a0 l b w' => ∃ (l0 l1 l2 l3 l4 l5 l6 l7 l8 l9 : Bool) (g7 g8 : Nat) , l = #[l0, l1, l2, l3, l4, l5, l6, l7, l8, l9] ∧ b = putsA a0 [(19, l0, .agg (ec K1).toArray, undef), (20, l1, .agg (pc A B).toArray, undef), (21, l2, .agg (pc X1 X2).toArray, undef), (22, l3, .agg (ec k0).toArray, undef), (23, l4, .agg (pc A B).toArray, undef), (24, l5, .agg (pc Y1 Y2).toArray, undef), (7, l6, .pointer (some ⟨g7, 0, none⟩), undef), (8, l7, .pointer (some ⟨g8, 0, none⟩), undef)] ∧ Fr w w' (opt [(true, (w.heap.size, 24, ec K1)), (true, ((w.heap.size + 1), 24, ec k0)), (true, ((w.heap.size + 1 + 1), 26, pc A B)), (l6, (g7, 26, bif l8 then pc X1 X2 else pc 0 0)), (l7, (g8, 26, bif l9 then pc Y1 Y2 else pc 0 0))]) ∧ (l8 = true → l6 = true) ∧ (l9 = true → l7 = true)) ?start ?step ?rest
  case start => exact ⟨false, false, false, false, false, false, false, false, false, false, 0, 0, by kernel_rfl, by kernel_rfl, h, (fun e => by cases e), (fun e => by cases e)⟩
  case step =>
    clear h
    intro l b w' hI i hi
    obtain ⟨l0, l1, l2, l3, l4, l5, l6, l7, l8, l9, g7, g8, rfl, rfl, h, hc8, hc9⟩ := hI
    have hlt : i < 10 := ready_lt hi
    obtain rfl | rfl | rfl | rfl | rfl | rfl | rfl | rfl | rfl | rfl := (by omega : i = 0 ∨ i = 1 ∨ i = 2 ∨ i = 3 ∨ i = 4 ∨ i = 5 ∨ i = 6 ∨ i = 7 ∨ i = 8 ∨ i = 9)
    · have hn : l0 = false := ready_not hi
      clear hi hlt
      subst hn
      refine wpOp_inv rfl rfl (fun K hK => ?_)
      simp only [putsA, Act.put, List.setIfInBounds_toArray, List.set_cons_zero, List.set_cons_succ, cond_false] at h ⊢
      refine wp_value (.agg (ec K1).toArray) (exec_load_W 24 _ rfl rfl (h.rowo (k := 0) rfl) Tryd.underlying24 rfl (ie4 _)) ?_
      exact hK.out _ _ ⟨true, l1, l2, l3, l4, l5, l6, l7, l8, l9, g7, g8, by kernel_rfl, by kernel_rfl, h, (by first | exact hc8 | exact fun _ => rfl | exact fun e => (by cases e)), (by first | exact hc9 | exact fun _ => rfl | exact fun e => (by cases e))⟩
    · have hn : l1 = false := ready_not hi
      clear hi hlt
      subst hn
      refine wpOp_inv rfl rfl (fun K hK => ?_)
      simp only [putsA, Act.put, List.setIfInBounds_toArray, List.set_cons_zero, List.set_cons_succ, cond_false] at h ⊢
      refine wp_value (.agg (pc A B).toArray) (exec_load_W 26 _ rfl rfl (h.rowo (k := 2) rfl) Tryd.underlying26 rfl (iP _ _)) ?_
      exact hK.out _ _ ⟨l0, true, l2, l3, l4, l5, l6, l7, l8, l9, g7, g8, by kernel_rfl, by kernel_rfl, h, (by first | exact hc8 | exact fun _ => rfl | exact fun e => (by cases e)), (by first | exact hc9 | exact fun _ => rfl | exact fun e => (by cases e))⟩
    · have hn : l2 = false := ready_not hi
      have hd0 : l0 = true := ready_dep hi rfl (k := 0) rfl rfl
      have hd1 : l1 = true := ready_dep hi rfl (k := 1) rfl rfl
      clear hi hlt
      subst hn hd0 hd1
      refine wpOp_inv rfl rfl (fun K hK => ?_)
      simp only [putsA, Act.put, List.setIfInBounds_toArray, List.set_cons_zero, List.set_cons_succ, cond_true, cond_false] at h ⊢
      go_simp
      refine (m1 _ (hI.below h.bel)).mono ?_
      rintro _ wn ⟨rfl, hb⟩
      replace h := h.below hb
      clear hb
      exact hK.out _ _ ⟨true, true, true, l3, l4, l5, l6, l7, l8, l9, g7, g8, by kernel_rfl, by kernel_rfl, h, (by first | exact hc8 | exact fun _ => rfl | exact fun e => (by cases e)), (by first | exact hc9 | exact fun _ => rfl | exact fun e => (by cases e))⟩
    · have hn : l3 = false := ready_not hi
      clear hi hlt
      subst hn
      refine wpOp_inv rfl rfl (fun K hK => ?_)
      simp only [putsA, Act.put, List.setIfInBounds_toArray, List.set_cons_zero, List.set_cons_succ, cond_false] at h ⊢
      refine wp_value (.agg (ec k0).toArray) (exec_load_W 24 _ rfl rfl (h.rowo (k := 1) rfl) Tryd.underlying24 rfl (ie4 _)) ?_
      exact hK.out _ _ ⟨l0, l1, l2, true, l4, l5, l6, l7, l8, l9, g7, g8, by kernel_rfl, by kernel_rfl, h, (by first | exact hc8 | exact fun _ => rfl | exact fun e => (by cases e)), (by first | exact hc9 | exact fun _ => rfl | exact fun e => (by cases e))⟩
    · have hn : l4 = false := ready_not hi
      clear hi hlt
      subst hn
      refine wpOp_inv rfl rfl (fun K hK => ?_)
      simp only [putsA, Act.put, List.setIfInBounds_toArray, List.set_cons_zero, List.set_cons_succ, cond_false] at h ⊢
      refine wp_value (.agg (pc A B).toArray) (exec_load_W 26 _ rfl rfl (h.rowo (k := 2) rfl) Tryd.underlying26 rfl (iP _ _)) ?_
      exact hK.out _ _ ⟨l0, l1, l2, l3, true, l5, l6, l7, l8, l9, g7, g8, by kernel_rfl, by kernel_rfl, h, (by first | exact hc8 | exact fun _ => rfl | exact fun e => (by cases e)), (by first | exact hc9 | exact fun _ => rfl | exact fun e => (by cases e))⟩
    · have hn : l5 = false := ready_not hi
      have hd3 : l3 = true := ready_dep hi rfl (k := 0) rfl rfl
      have hd4 : l4 = true := ready_dep hi rfl (k := 1) rfl rfl
      have hd2 : l2 = true := ready_dep hi rfl (k := 2) rfl rfl
      clear hi hlt
      subst hn hd3 hd4 hd2
      refine wpOp_inv rfl rfl (fun K hK => ?_)
      simp only [putsA, Act.put, List.setIfInBounds_toArray, List.set_cons_zero, List.set_cons_succ, cond_true, cond_false] at h ⊢
      go_simp
      refine (m2 _ (hI.below h.bel)).mono ?_
      rintro _ wn ⟨rfl, hb⟩
      replace h := h.below hb
      clear hb
      exact hK.out _ _ ⟨l0, l1, true, true, true, true, l6, l7, l8, l9, g7, g8, by kernel_rfl, by kernel_rfl, h, (by first | exact hc8 | exact fun _ => rfl | exact fun e => (by cases e)), (by first | exact hc9 | exact fun _ => rfl | exact fun e => (by cases e))⟩
    · have hn : l6 = false := ready_not hi
      clear hi hlt
      subst hn
      obtain rfl : l8 = false := by cases l8 with | false => rfl | true => exact absurd (hc8 rfl) (by decide)
      refine wpOp_inv rfl rfl (fun K hK => ?_)
      simp only [putsA, Act.put, List.setIfInBounds_toArray, List.set_cons_zero, List.set_cons_succ, cond_false] at h ⊢
      refine wp_alloc_R 26 rfl (pc 0 0) zPw ?_
      obtain ⟨gn, hgq, hq⟩ := h.on (k := 3) rfl 26 (pc 0 0)
      rw [hgq]
      exact hK.out _ _ ⟨l0, l1, l2, l3, l4, l5, true, l7, false, l9, gn, g8, by kernel_rfl, by kernel_rfl, hq, (by first | exact hc8 | exact fun _ => rfl | exact fun e => (by cases e)), (by first | exact hc9 | exact fun _ => rfl | exact fun e => (by cases e))⟩
    · have hn : l7 = false := ready_not hi
      clear hi hlt
      subst hn
      obtain rfl : l9 = false := by cases l9 with | false => rfl | true => exact absurd (hc9 rfl) (by decide)
      refine wpOp_inv rfl rfl (fun K hK => ?_)
      simp only [putsA, Act.put, List.setIfInBounds_toArray, List.set_cons_zero, List.set_cons_succ, cond_false] at h ⊢
      refine wp_alloc_R 26 rfl (pc 0 0) zPw ?_
      obtain ⟨gn, hgq, hq⟩ := h.on (k := 4) rfl 26 (pc 0 0)
      rw [hgq]
      exact hK.out _ _ ⟨l0, l1, l2, l3, l4, l5, l6, true, l8, false, g7, gn, by kernel_rfl, by kernel_rfl, hq, (by first | exact hc8 | exact fun _ => rfl | exact fun e => (by cases e)), (by first | exact hc9 | exact fun _ => rfl | exact fun e => (by cases e))⟩
    · have hn : l8 = false := ready_not hi
      have hd6 : l6 = true := ready_dep hi rfl (k := 0) rfl rfl
      have hd2 : l2 = true := ready_dep hi rfl (k := 1) rfl rfl
      have hd5 : l5 = true := ready_dep hi rfl (k := 2) rfl rfl
      have hd0 : l0 = true := ready_dep hi rfl (k := 3) rfl rfl
      have hd1 : l1 = true := ready_dep hi rfl (k := 4) rfl rfl
      have hd7 : l7 = true := ready_dep hi rfl (k := 10) rfl rfl
      clear hi hlt
      subst hn hd6 hd2 hd5 hd0 hd1 hd7
      refine wpOp_inv rfl rfl (fun K hK => ?_)
      simp only [putsA, Act.put, List.setIfInBounds_toArray, List.set_cons_zero, List.set_cons_succ, cond_true, cond_false] at h ⊢
      refine wp_store_R 26 _ _ rfl _ (pc X1 X2) rfl rfl (h.rowo (k := 3) rfl) (iP _ _) rfl (pc_all _ _) ?_
      intro wz q hg hz
      replace h := h.puto (k := 3) rfl q hg
      exact hK.out _ _ ⟨true, true, true, l3, l4, true, true, true, true, l9, g7, g8, by kernel_rfl, by kernel_rfl, h, (by first | exact hc8 | exact fun _ => rfl | exact fun e => (by cases e)), (by first | exact hc9 | exact fun _ => rfl | exact fun e => (by cases e))⟩
    · have hn : l9 = false := ready_not hi
      have hd7 : l7 = true := ready_dep hi rfl (k := 0) rfl rfl
      have hd5 : l5 = true := ready_dep hi rfl (k := 1) rfl rfl
      have hd8 : l8 = true := ready_dep hi rfl (k := 2) rfl rfl
      have hd0 : l0 = true := ready_dep hi rfl (k := 3) rfl rfl
      have hd1 : l1 = true := ready_dep hi rfl (k := 4) rfl rfl
      have hd2 : l2 = true := ready_dep hi rfl (k := 5) rfl rfl
      have hd3 : l3 = true := ready_dep hi rfl (k := 6) rfl rfl
      have hd4 : l4 = true := ready_dep hi rfl (k := 7) rfl rfl
      have hd6 : l6 = true := ready_dep hi rfl (k := 9) rfl rfl
      clear hi hlt
      subst hn hd7 hd5 hd8 hd0 hd1 hd2 hd3 hd4 hd6
      refine wpOp_inv rfl rfl (fun K hK => ?_)
      simp only [putsA, Act.put, List.setIfInBounds_toArray, List.set_cons_zero, List.set_cons_succ, cond_true, cond_false] at h ⊢
      refine wp_store_R 26 _ _ rfl _ (pc Y1 Y2) rfl rfl (h.rowo (k := 4) rfl) (iP _ _) rfl (pc_all _ _) ?_
      intro wz q hg hz
      replace h := h.puto (k := 4) rfl q hg
      exact hK.out _ _ ⟨true, true, true, true, true, true, true, true, true, true, g7, g8, by kernel_rfl, by kernel_rfl, h, (by first | exact hc8 | exact fun _ => rfl | exact fun e => (by cases e)), (by first | exact hc9 | exact fun _ => rfl | exact fun e => (by cases e))⟩
  case rest =>
    clear h
    intro l b w' hI hr
    obtain ⟨l0, l1, l2, l3, l4, l5, l6, l7, l8, l9, g7, g8, rfl, rfl, h, hc8, hc9⟩ := hI
    have hd : l0 = true := ready_nil (i := 0) hr rfl (by rfl)
    subst hd
    have hd : l1 = true := ready_nil (i := 1) hr rfl (by rfl)
    subst hd
    have hd : l2 = true := ready_nil (i := 2) hr rfl (by rfl)
    subst hd
    have hd : l3 = true := ready_nil (i := 3) hr rfl (by rfl)
    subst hd
    have hd : l4 = true := ready_nil (i := 4) hr rfl (by rfl)
    subst hd
    have hd : l5 = true := ready_nil (i := 5) hr rfl (by rfl)
    subst hd
    have hd : l6 = true := ready_nil (i := 6) hr rfl (by rfl)
    subst hd
    have hd : l7 = true := ready_nil (i := 7) hr rfl (by rfl)
    subst hd
    have hd : l8 = true := ready_nil (i := 8) hr rfl (by rfl)
    subst hd
    have hd : l9 = true := ready_nil (i := 9) hr rfl (by rfl)
    subst hd
    clear hr hc8 hc9
    simp only [putsA, Act.put, List.setIfInBounds_toArray, List.set_cons_zero, List.set_cons_succ, cond_true]
    replace h : Fr w w' [(w.heap.size, 24, ec K1), ((w.heap.size + 1), 24, ec k0), ((w.heap.size + 1 + 1), 26, pc A B), (g7, 26, pc X1 X2), (g8, 26, pc Y1 Y2)] := h
    have q0 := (h.row (i := 0) rfl).cell 0
    rw [show (ec K1)[0]? = some (.int .u64 (x0 : Int)) by rw [ec, hK1]; rfl] at q0
    have q1 := (h.row (i := 0) rfl).cell 1
    rw [show (ec K1)[1]? = some (.int .u64 (x1 : Int)) by rw [ec, hK1]; rfl] at q1
    have q2 := (h.row (i := 0) rfl).cell 2
    rw [show (ec K1)[2]? = some (.int .u64 (x2 : Int)) by rw [ec, hK1]; rfl] at q2
    have q3 := (h.row (i := 0) rfl).cell 3
    rw [show (ec K1)[3]? = some (.int .u64 (x3' : Int)) by rw [ec, hK1]; rfl] at q3
    obtain ⟨g9, hgq, hq⟩ := h.more 5 24 (ec 0)
    replace hq : Fr w _ [(w.heap.size, 24, ec K1), ((w.heap.size + 1), 24, ec k0), ((w.heap.size + 1 + 1), 26, pc A B), (g7, 26, pc X1 X2), (g8, 26, pc Y1 Y2), (g9, 24, ec 0)] := hq
    go_upto_region 4 with (first | refine wpList_alloc_row rfl 24 rfl _ z4w ?_ | (refine wpList_store_R rfl 24 _ _ rfl _ (ec k2) (congrArg (fun g => Value.pointer (some ⟨g, 0, none⟩)) hgq) (by show _ = Value.agg (C .u64 (wds k2)).toArray; rw [hk2]; rfl) (hq.row (i := 5) rfl) (ie4 _) rfl (ec_all _) ?_; intro wz q hg hz))
    replace h : Fr w wz [(w.heap.size, 24, ec K1), ((w.heap.size + 1), 24, ec k0), ((w.heap.size + 1 + 1), 26, pc A B), (g7, 26, pc X1 X2), (g8, 26, pc Y1 Y2), (g9, 24, ec k2)] := hq.put (i := 5) rfl q hg
    try rw [hgq]
    clear q hg hz hq hgq
    clear q0 q1 q2 q3
    try simp only [Act.put]
    replace h := h.drew
    refine wp_region_noPanic ?_
    refine wp_region_held_drew (S := fun w' => Row w' g9 24 (ec k2) ∧ Row w' (w.heap.size + 1 + 1) 26 (pc A B) ∧ Row w' g7 26 (pc X1 X2)) (by kernel_rfl) ⟨h.row (i := 5) rfl, h.row (i := 2) rfl, h.row (i := 3) rfl⟩ (fun hHeld => ?_)
    refine wpAnyH_takeL (i := 0) (v := (.agg (ec k2).toArray)) rfl (by kernel_rfl) (by kernel_rfl) (by kernel_rfl) (fun _ _ _ h => h) (by rfl) ?ht1 (by assumption) ?_
    case ht1 => intro w hSw; exact exec_load_W 24 _ rfl rfl hSw.1 Tryd.underlying24 rfl (ie4 _)
    simp only [Act.put, List.setIfInBounds_toArray, List.set_cons_zero, List.set_cons_succ]
    refine wpAnyH_takeL (i := 1) (v := (.agg (pc A B).toArray)) rfl (by kernel_rfl) (by kernel_rfl) (by kernel_rfl) (fun _ _ _ h => h) (by rfl) ?ht2 (by assumption) ?_
    case ht2 => intro w hSw; exact exec_load_W 26 _ rfl rfl hSw.2.1 Tryd.underlying26 rfl (iP _ _)
    simp only [Act.put, List.setIfInBounds_toArray, List.set_cons_zero, List.set_cons_succ]
    refine wpAnyH_takeL (i := 3) (v := (.agg (pc X1 X2).toArray)) rfl (by kernel_rfl) (by kernel_rfl) (by kernel_rfl) (fun _ _ _ h => h) (by rfl) ?ht3 (by assumption) ?_
    case ht3 => intro w hSw; exact exec_load_W 26 _ rfl rfl hSw.2.2 Tryd.underlying26 rfl (iP _ _)
    simp only [Act.put, List.setIfInBounds_toArray, List.set_cons_zero, List.set_cons_succ]
    refine wpAnyH_takeL (i := 4) (v := (.agg (pc X1 X2).toArray)) rfl (by kernel_rfl) (by kernel_rfl) (by kernel_rfl) (fun _ _ _ h => h) (by rfl) ?ht4 (by assumption) ?_
    case ht4 => intro w hSw; exact exec_load_W 26 _ rfl rfl hSw.2.2 Tryd.underlying26 rfl (iP _ _)
    simp only [Act.put, List.setIfInBounds_toArray, List.set_cons_zero, List.set_cons_succ]
    refine allReadyH_oneL (i := 2) (by kernel_rfl) rfl (by rfl) (fun K hK => ?_)
    go_simp
    refine (m3 _ (hI.below h.bel)).mono ?_
    rintro _ wn ⟨rfl, hb⟩
    replace h := h.below hb
    clear hb
    refine hK.out _ _ ⟨h.row (i := 5) rfl, h.row (i := 2) rfl, h.row (i := 3) rfl⟩ (fun hHeld => ?_)
    clear hK K
    refine allReadyH_oneL (i := 5) (by kernel_rfl) rfl (by rfl) (fun K hK => ?_)
    go_simp
    refine (a1 _ (hI.below h.bel)).mono ?_
    rintro _ wn ⟨rfl, hb⟩
    replace h := h.below hb
    clear hb
    refine hK.out _ _ ⟨h.row (i := 5) rfl, h.row (i := 2) rfl, h.row (i := 3) rfl⟩ (fun hHeld => ?_)
    clear hK K
    refine wpAnyH_takeL (i := 6) (v := ?vt5) rfl (by kernel_rfl) (by kernel_rfl) (by kernel_rfl) (fun _ _ _ h => h) (by rfl) ?ht5 (by assumption) ?_
    case ht5 => intro w hSw; go_simp <;> with_reducible rfl
    simp only [Act.put, List.setIfInBounds_toArray, List.set_cons_zero, List.set_cons_succ]
    refine wpAnyH_takeL (i := 7) (v := ?vt6) rfl (by kernel_rfl) (by kernel_rfl) (by kernel_rfl) (fun _ _ _ h => h) (by rfl) ?ht6 (by assumption) ?_
    case ht6 => intro w hSw; go_simp <;> with_reducible rfl
    simp only [Act.put, List.setIfInBounds_toArray, List.set_cons_zero, List.set_cons_succ]
    refine wpAnyH_done (by kernel_rfl) ?_ _
    refine NoPanic.normal ?_
    have c9 := (h.row (i := 5) rfl).cell 0
    rw [show (ec k2)[0]? = some (.int .u64 (s0 : Int)) by rw [ec, hk2]; rfl] at c9
    have f9 := (h.row (i := 5) rfl).frozen 0
    have m9 := row_set (h.row (i := 5) rfl) 0 z0
    rw [show (wds k2).set 0 z0 = wds k3 by rw [hk2, hk3]; rfl] at m9
    have h9 : Fr w (wn.setCell ⟨g9, 0, none⟩ (.int .u64 (z0 : Int))) [(w.heap.size, 24, ec K1), ((w.heap.size + 1), 24, ec k0), ((w.heap.size + 1 + 1), 26, pc A B), (g7, 26, pc X1 X2), (g8, 26, pc Y1 Y2), (g9, 24, ec k3)] := h.put (i := 5) rfl m9 (grown_set _ _ _ _)
    clear h m9
    go_upto_region 6 with fail
    clear c9 f9
    generalize wn.setCell ⟨g9, 0, none⟩ (.int .u64 (z0 : Int)) = w9 at *
    have h := h9
    clear h9
    replace h := h.drew
    refine wp_region_noPanic ?_
    refine wp_region_held_drew (S := fun w' => Row w' g9 24 (ec k3) ∧ Row w' (w.heap.size + 1 + 1) 26 (pc A B) ∧ Row w' g7 26 (pc X1 X2)) (by kernel_rfl) ⟨h.row (i := 5) rfl, h.row (i := 2) rfl, h.row (i := 3) rfl⟩ (fun hHeld => ?_)
    refine wpAnyH_takeL (i := 0) (v := (.agg (ec k3).toArray)) rfl (by kernel_rfl) (by kernel_rfl) (by kernel_rfl) (fun _ _ _ h => h) (by rfl) ?ht7 (by assumption) ?_
    case ht7 => intro w hSw; exact exec_load_W 24 _ rfl rfl hSw.1 Tryd.underlying24 rfl (ie4 _)
    simp only [Act.put, List.setIfInBounds_toArray, List.set_cons_zero, List.set_cons_succ]
    refine wpAnyH_takeL (i := 1) (v := (.agg (pc A B).toArray)) rfl (by kernel_rfl) (by kernel_rfl) (by kernel_rfl) (fun _ _ _ h => h) (by rfl) ?ht8 (by assumption) ?_
    case ht8 => intro w hSw; exact exec_load_W 26 _ rfl rfl hSw.2.1 Tryd.underlying26 rfl (iP _ _)
    simp only [Act.put, List.setIfInBounds_toArray, List.set_cons_zero, List.set_cons_succ]
    refine wpAnyH_takeL (i := 3) (v := (.agg (pc X1 X2).toArray)) rfl (by kernel_rfl) (by kernel_rfl) (by kernel_rfl) (fun _ _ _ h => h) (by rfl) ?ht9 (by assumption) ?_
    case ht9 => intro w hSw; exact exec_load_W 26 _ rfl rfl hSw.2.2 Tryd.underlying26 rfl (iP _ _)
    simp only [Act.put, List.setIfInBounds_toArray, List.set_cons_zero, List.set_cons_succ]
    refine wpAnyH_takeL (i := 4) (v := (.agg (pc X1 X2).toArray)) rfl (by kernel_rfl) (by kernel_rfl) (by kernel_rfl) (fun _ _ _ h => h) (by rfl) ?ht10 (by assumption) ?_
    case ht10 => intro w hSw; exact exec_load_W 26 _ rfl rfl hSw.2.2 Tryd.underlying26 rfl (iP _ _)
    simp only [Act.put, List.setIfInBounds_toArray, List.set_cons_zero, List.set_cons_succ]
    refine wpAnyH_takeL (i := 6) (v := (.agg (pc A B).toArray)) rfl (by kernel_rfl) (by kernel_rfl) (by kernel_rfl) (fun _ _ _ h => h) (by rfl) ?ht11 (by assumption) ?_
    case ht11 => intro w hSw; exact exec_load_W 26 _ rfl rfl hSw.2.1 Tryd.underlying26 rfl (iP _ _)
    simp only [Act.put, List.setIfInBounds_toArray, List.set_cons_zero, List.set_cons_succ]
    refine allReadyH_oneL (i := 2) (by kernel_rfl) rfl (by rfl) (fun K hK => ?_)
    go_simp
    refine (m4 _ (hI.below h.bel)).mono ?_
    rintro _ wn ⟨rfl, hb⟩
    replace h := h.below hb
    clear hb
    refine hK.out _ _ ⟨h.row (i := 5) rfl, h.row (i := 2) rfl, h.row (i := 3) rfl⟩ (fun hHeld => ?_)
    clear hK K
    refine allReadyH_oneL (i := 5) (by kernel_rfl) rfl (by rfl) (fun K hK => ?_)
    go_simp
    refine (a1 _ (hI.below h.bel)).mono ?_
    rintro _ wn ⟨rfl, hb⟩
    replace h := h.below hb
    clear hb
    refine hK.out _ _ ⟨h.row (i := 5) rfl, h.row (i := 2) rfl, h.row (i := 3) rfl⟩ (fun hHeld => ?_)
    clear hK K
    refine allReadyH_oneL (i := 7) (by kernel_rfl) rfl (by rfl) (fun K hK => ?_)
    go_simp
    refine (a2 _ (hI.below h.bel)).mono ?_
    rintro _ wn ⟨rfl, hb⟩
    replace h := h.below hb
    clear hb
    refine hK.out _ _ ⟨h.row (i := 5) rfl, h.row (i := 2) rfl, h.row (i := 3) rfl⟩ (fun hHeld => ?_)
    clear hK K
    refine wpAnyH_takeL (i := 8) (v := ?vt12) rfl (by kernel_rfl) (by kernel_rfl) (by kernel_rfl) (fun _ _ _ h => h) (by rfl) ?ht12 (by assumption) ?_
    case ht12 => intro w hSw; go_simp <;> with_reducible rfl
    simp only [Act.put, List.setIfInBounds_toArray, List.set_cons_zero, List.set_cons_succ]
    refine wpAnyH_takeL (i := 9) (v := ?vt13) rfl (by kernel_rfl) (by kernel_rfl) (by kernel_rfl) (fun _ _ _ h => h) (by rfl) ?ht13 (by assumption) ?_
    case ht13 => intro w hSw; go_simp <;> with_reducible rfl
    simp only [Act.put, List.setIfInBounds_toArray, List.set_cons_zero, List.set_cons_succ]
    refine wpAnyH_done (by kernel_rfl) ?_ _
    refine NoPanic.normal ?_
    go_wp2_with fail
    refine (cZ _).mono ?_
    rintro _ wn ⟨rfl, hb⟩
    replace h := h.below hb
    clear hb
    obtain ⟨g12, hgq, hq⟩ := h.more 6 26 (pc 0 0)
    replace hq : Fr w _ [(w.heap.size, 24, ec K1), ((w.heap.size + 1), 24, ec k0), ((w.heap.size + 1 + 1), 26, pc A B), (g7, 26, pc X1 X2), (g8, 26, pc Y1 Y2), (g9, 24, ec k3), (g12, 26, pc 0 0)] := hq
    go_upto_region 8 with (first | refine wpList_alloc_row rfl 26 rfl _ zPw ?_ | (refine wpList_store_R rfl 26 _ _ rfl _ (pc Z1 Z2) (congrArg (fun g => Value.pointer (some ⟨g, 0, none⟩)) hgq) rfl (hq.row (i := 6) rfl) (iP _ _) rfl (pc_all _ _) ?_; intro wz q hg hz))
    replace h : Fr w wz [(w.heap.size, 24, ec K1), ((w.heap.size + 1), 24, ec k0), ((w.heap.size + 1 + 1), 26, pc A B), (g7, 26, pc X1 X2), (g8, 26, pc Y1 Y2), (g9, 24, ec k3), (g12, 26, pc Z1 Z2)] := hq.put (i := 6) rfl q hg
    try rw [hgq]
    clear q hg hz hq hgq
    try simp only [Act.put]
    replace h := h.drew
    refine wp_region_noPanic ?_
    refine wp_region_held_drew (S := fun w' => Row w' (w.heap.size + 1 + 1) 26 (pc A B) ∧ Row w' g12 26 (pc Z1 Z2)) (by kernel_rfl) ⟨h.row (i := 2) rfl, h.row (i := 6) rfl⟩ (fun hHeld => ?_)
    refine wpAnyH_takeL (i := 1) (v := (.agg (pc A B).toArray)) rfl (by kernel_rfl) (by kernel_rfl) (by kernel_rfl) (fun _ _ _ h => h) (by rfl) ?ht14 (by assumption) ?_
    case ht14 => intro w hSw; exact exec_load_W 26 _ rfl rfl hSw.1 Tryd.underlying26 rfl (iP _ _)
    simp only [Act.put, List.setIfInBounds_toArray, List.set_cons_zero, List.set_cons_succ]
    refine wpAnyH_takeL (i := 3) (v := (.agg (pc Z1 Z2).toArray)) rfl (by kernel_rfl) (by kernel_rfl) (by kernel_rfl) (fun _ _ _ h => h) (by rfl) ?ht15 (by assumption) ?_
    case ht15 => intro w hSw; exact exec_load_W 26 _ rfl rfl hSw.2 Tryd.underlying26 rfl (iP _ _)
    simp only [Act.put, List.setIfInBounds_toArray, List.set_cons_zero, List.set_cons_succ]
    refine allReadyH_oneL (i := 0) (by kernel_rfl) rfl (by rfl) (fun K hK => ?_)
    go_simp
    refine (c8 _).mono ?_
    rintro _ wn ⟨rfl, hb⟩
    replace h := h.below hb
    clear hb
    refine hK.out _ _ ⟨h.row (i := 2) rfl, h.row (i := 6) rfl⟩ (fun hHeld => ?_)
    clear hK K
    refine allReadyH_oneL (i := 2) (by kernel_rfl) rfl (by rfl) (fun K hK => ?_)
    go_simp
    refine (m5 _ (hI.below h.bel)).mono ?_
    rintro _ wn ⟨rfl, hb⟩
    replace h := h.below hb
    clear hb
    refine hK.out _ _ ⟨h.row (i := 2) rfl, h.row (i := 6) rfl⟩ (fun hHeld => ?_)
    clear hK K
    refine wpAnyH_takeL (i := 4) (v := ?vt16) rfl (by kernel_rfl) (by kernel_rfl) (by kernel_rfl) (fun _ _ _ h => h) (by rfl) ?ht16 (by assumption) ?_
    case ht16 => intro w hSw; go_simp <;> with_reducible rfl
    simp only [Act.put, List.setIfInBounds_toArray, List.set_cons_zero, List.set_cons_succ]
    refine wpAnyH_takeL (i := 5) (v := ?vt17) rfl (by kernel_rfl) (by kernel_rfl) (by kernel_rfl) (fun _ _ _ h => h) (by rfl) ?ht17 (by assumption) ?_
    case ht17 => intro w hSw; go_simp <;> with_reducible rfl
    simp only [Act.put, List.setIfInBounds_toArray, List.set_cons_zero, List.set_cons_succ]
    refine wpAnyH_takeL (i := 9) (v := (.agg (pc Z1 Z2).toArray)) rfl (by kernel_rfl) (by kernel_rfl) (by kernel_rfl) (fun _ _ _ h => h) (by rfl) ?ht18 (by assumption) ?_
    case ht18 => intro w hSw; exact exec_load_W 26 _ rfl rfl hSw.2 Tryd.underlying26 rfl (iP _ _)
    simp only [Act.put, List.setIfInBounds_toArray, List.set_cons_zero, List.set_cons_succ]
    refine allReadyH_oneL (i := 6) (by kernel_rfl) rfl (by rfl) (fun K hK => ?_)
    go_simp
    refine (cL _).mono ?_
    rintro _ wn ⟨rfl, hb⟩
    replace h := h.below hb
    clear hb
    refine hK.out _ _ ⟨h.row (i := 2) rfl, h.row (i := 6) rfl⟩ (fun hHeld => ?_)
    clear hK K
    refine allReadyH_oneL (i := 7) (by kernel_rfl) rfl (by rfl) (fun K hK => ?_)
    go_simp
    refine (cB _ (hB.below h.bel)).mono ?_
    rintro _ wn ⟨rfl, hb⟩
    replace h := h.below hb
    clear hb
    refine hK.out _ _ ⟨h.row (i := 2) rfl, h.row (i := 6) rfl⟩ (fun hHeld => ?_)
    clear hK K
    refine allReadyH_oneL (i := 8) (by kernel_rfl) rfl (by rfl) (fun K hK => ?_)
    go_simp
    refine (m6 _ (hI.below h.bel)).mono ?_
    rintro _ wn ⟨rfl, hb⟩
    replace h := h.below hb
    clear hb
    refine hK.out _ _ ⟨h.row (i := 2) rfl, h.row (i := 6) rfl⟩ (fun hHeld => ?_)
    clear hK K
    refine wpAnyH_takeL (i := 10) (v := ?vt19) rfl (by kernel_rfl) (by kernel_rfl) (by kernel_rfl) (fun _ _ _ h => h) (by rfl) ?ht19 (by assumption) ?_
    case ht19 => intro w hSw; go_simp <;> with_reducible rfl
    simp only [Act.put, List.setIfInBounds_toArray, List.set_cons_zero, List.set_cons_succ]
    refine wpAnyH_takeL (i := 11) (v := ?vt20) rfl (by kernel_rfl) (by kernel_rfl) (by kernel_rfl) (fun _ _ _ h => h) (by rfl) ?ht20 (by assumption) ?_
    case ht20 => intro w hSw; go_simp <;> with_reducible rfl
    simp only [Act.put, List.setIfInBounds_toArray, List.set_cons_zero, List.set_cons_succ]
    refine wpAnyH_takeL (i := 12) (v := ?vt21) rfl (by kernel_rfl) (by kernel_rfl) (by kernel_rfl) (fun _ _ _ h => h) (by rfl) ?ht21 (by assumption) ?_
    case ht21 => intro w hSw; go_simp <;> with_reducible rfl
    simp only [Act.put, List.setIfInBounds_toArray, List.set_cons_zero, List.set_cons_succ]
    refine wpAnyH_done (by kernel_rfl) ?_ _
    refine NoPanic.normal ?_
    go_upto_region 9 with fail
    try simp only [Act.put, List.setIfInBounds_toArray, List.set_cons_zero, List.set_cons_succ]
    replace h := h.drew
    refine wp_region_noPanic ?_
    refine wp_region_held_drew (S := fun w' => Row w' w.heap.size 24 (ec K1) ∧ Row w' (w.heap.size + 1 + 1) 26 (pc A B) ∧ Row w' (w.heap.size + 1) 24 (ec k0) ∧ Row w' g7 26 (pc X1 X2) ∧ Row w' g8 26 (pc Y1 Y2)) (by kernel_rfl) ⟨h.row (i := 0) rfl, h.row (i := 2) rfl, h.row (i := 1) rfl, h.row (i := 3) rfl, h.row (i := 4) rfl⟩ (fun hHeld => ?_)
    refine wpAnyH_takeL (i := 0) (v := (.agg (ec K1).toArray)) rfl (by kernel_rfl) (by kernel_rfl) (by kernel_rfl) (fun _ _ _ h => h) (by rfl) ?ht22 (by assumption) ?_
    case ht22 => intro w hSw; exact exec_load_W 24 _ rfl rfl hSw.1 Tryd.underlying24 rfl (ie4 _)
    simp only [Act.put, List.setIfInBounds_toArray, List.set_cons_zero, List.set_cons_succ]
    refine wpAnyH_takeL (i := 1) (v := (.agg (pc A B).toArray)) rfl (by kernel_rfl) (by kernel_rfl) (by kernel_rfl) (fun _ _ _ h => h) (by rfl) ?ht23 (by assumption) ?_
    case ht23 => intro w hSw; exact exec_load_W 26 _ rfl rfl hSw.2.1 Tryd.underlying26 rfl (iP _ _)
    simp only [Act.put, List.setIfInBounds_toArray, List.set_cons_zero, List.set_cons_succ]
    refine wpAnyH_takeL (i := 2) (v := (.agg (ec k0).toArray)) rfl (by kernel_rfl) (by kernel_rfl) (by kernel_rfl) (fun _ _ _ h => h) (by rfl) ?ht24 (by assumption) ?_
    case ht24 => intro w hSw; exact exec_load_W 24 _ rfl rfl hSw.2.2.1 Tryd.underlying24 rfl (ie4 _)
    simp only [Act.put, List.setIfInBounds_toArray, List.set_cons_zero, List.set_cons_succ]
    refine wpAnyH_takeL (i := 3) (v := (.agg (pc A B).toArray)) rfl (by kernel_rfl) (by kernel_rfl) (by kernel_rfl) (fun _ _ _ h => h) (by rfl) ?ht25 (by assumption) ?_
    case ht25 => intro w hSw; exact exec_load_W 26 _ rfl rfl hSw.2.1 Tryd.underlying26 rfl (iP _ _)
    simp only [Act.put, List.setIfInBounds_toArray, List.set_cons_zero, List.set_cons_succ]
    refine wpAnyH_takeL (i := 5) (v := (.agg (pc X1 X2).toArray)) rfl (by kernel_rfl) (by kernel_rfl) (by kernel_rfl) (fun _ _ _ h => h) (by rfl) ?ht26 (by assumption) ?_
    case ht26 => intro w hSw; exact exec_load_W 26 _ rfl rfl hSw.2.2.2.1 Tryd.underlying26 rfl (iP _ _)
    simp only [Act.put, List.setIfInBounds_toArray, List.set_cons_zero, List.set_cons_succ]
    refine wpAnyH_takeL (i := 6) (v := (.agg (pc Y1 Y2).toArray)) rfl (by kernel_rfl) (by kernel_rfl) (by kernel_rfl) (fun _ _ _ h => h) (by rfl) ?ht27 (by assumption) ?_
    case ht27 => intro w hSw; exact exec_load_W 26 _ rfl rfl hSw.2.2.2.2 Tryd.underlying26 rfl (iP _ _)
    simp only [Act.put, List.setIfInBounds_toArray, List.set_cons_zero, List.set_cons_succ]
    refine allReadyH_oneL (i := 4) (by kernel_rfl) rfl (by rfl) (fun K hK => ?_)
    go_simp
    refine (cH _ (hI.below h.bel)).mono ?_
    rintro _ wn ⟨rfl, hb⟩
    replace h := h.below hb
    clear hb
    refine hK.out _ _ ⟨h.row (i := 0) rfl, h.row (i := 2) rfl, h.row (i := 1) rfl, h.row (i := 3) rfl, h.row (i := 4) rfl⟩ (fun hHeld => ?_)
    clear hK K
    refine allReadyH_oneL (i := 7) (by kernel_rfl) rfl (by rfl) (fun K hK => ?_)
    go_simp
    refine (a3 _ (hI.below h.bel)).mono ?_
    rintro _ wn ⟨rfl, hb⟩
    replace h := h.below hb
    clear hb
    refine hK.out _ _ ⟨h.row (i := 0) rfl, h.row (i := 2) rfl, h.row (i := 1) rfl, h.row (i := 3) rfl, h.row (i := 4) rfl⟩ (fun hHeld => ?_)
    clear hK K
    refine wpAnyH_takeL (i := 8) (v := ?vt28) rfl (by kernel_rfl) (by kernel_rfl) (by kernel_rfl) (fun _ _ _ h => h) (by rfl) ?ht28 (by assumption) ?_
    case ht28 => intro w hSw; go_simp <;> with_reducible rfl
    simp only [Act.put, List.setIfInBounds_toArray, List.set_cons_zero, List.set_cons_succ]
    refine wpAnyH_takeL (i := 9) (v := ?vt29) rfl (by kernel_rfl) (by kernel_rfl) (by kernel_rfl) (fun _ _ _ h => h) (by rfl) ?ht29 (by assumption) ?_
    case ht29 => intro w hSw; go_simp <;> with_reducible rfl
    simp only [Act.put, List.setIfInBounds_toArray, List.set_cons_zero, List.set_cons_succ]
    refine wpAnyH_done (by kernel_rfl) ?_ _
    refine NoPanic.normal ?_
    go_wp2_with fail
    refine (alive13_true _ (hE.below h.bel) (hB.below h.bel)).mono ?_
    rintro _ wn ⟨rfl, hb⟩
    replace h := h.below hb
    clear hb
    go_wp2
    go_ret
    exact ⟨rfl, h.bel⟩
theorem walk (k : Nat) (lk : k < 115792089237316195423570985008687907853269984665640564039457584007913129639936) (m : Nat) (lm : m < 115792089237316195423570985008687907853269984665640564039457584007913129639936) (A B : Nat) (lA : A < 115792089237316195423570985008687907853269984665640564039457584007913129639936) (lB : B < 115792089237316195423570985008687907853269984665640564039457584007913129639936) (w : World) (hI : TI w) (hB : TB w) : Calls Tryd.prog 8 #[.agg (ec k).toArray, .agg (ec m).toArray, .agg (pc A B).toArray] w fun e w' => e = .returned (.bool true) ∧ Below w.heap.size w w' := by
  obtain ⟨x0, x1, x2, x3, hk⟩ : ∃ x0 x1 x2 x3, wds k = [x0, x1, x2, x3] := ⟨_, _, _, _, rfl⟩
  have hlo := wds_lo k
  rw [hk] at hlo
  have h0 := hlo x0 (by simp)
  have h1 := hlo x1 (by simp)
  have h2 := hlo x2 (by simp)
  have h3 := hlo x3 (by simp)
  have l3 : x3 % 4611686018427387904 < 4611686018427387904 := Nat.mod_lt _ (by decide)
  have e3 : bits .and .u64 (x3 : Int) 4611686018427387903 = ((x3 % 4611686018427387904 : Nat) : Int) := by
    have := u64_and_nat x3 4611686018427387903 h3 (by decide)
    rw [show ((4611686018427387903 : Nat) : Int) = 4611686018427387903 from rfl] at this
    rw [this, show (4611686018427387903 : Nat) = 2 ^ 62 - 1 from rfl, Nat.and_two_pow_sub_one_eq_mod]
  obtain ⟨x, hx⟩ : ∃ x, x3 % 4611686018427387904 = x := ⟨_, rfl⟩
  rw [hx] at l3 e3
  obtain ⟨d1, d2⟩ := dbl_words h0 h1 h2 l3
  have hK := of_wds (xs := [x0, x1, x2, x]) rfl (by
    intro y hy
    simp only [List.mem_cons, List.not_mem_nil, or_false] at hy
    omega)
  obtain ⟨K1, hK1⟩ : ∃ K, val 18446744073709551616 [x0, x1, x2, x] = K := ⟨_, rfl⟩
  rw [hK1] at d1 d2 hK
  have l2 : 2 * K1 < 115792089237316195423570985008687907853269984665640564039457584007913129639936 := by omega
  have od := odd_words d2
  rw [← d1] at od
  have o1 : x1 * 2 % 18446744073709551616 ||| x0 / 9223372036854775808 < 18446744073709551616 := Nat.or_lt_two_pow (n := 64) (by omega) (by omega)
  have o2 : x2 * 2 % 18446744073709551616 ||| x1 / 9223372036854775808 < 18446744073709551616 := Nat.or_lt_two_pow (n := 64) (by omega) (by omega)
  have o3 : x * 2 % 18446744073709551616 ||| x2 / 9223372036854775808 < 18446744073709551616 := Nat.or_lt_two_pow (n := 64) (by omega) (by omega)
  have wr : ∀ y : Nat, IntKind.u64.wrap ((y : Int) * 2) = ((y * 2 % 18446744073709551616 : Nat) : Int) := fun y => by rw [IntKind.wrap_u64]; omega
  have dv : ∀ y : Nat, (y : Int) / 9223372036854775808 = ((y / 9223372036854775808 : Nat) : Int) := fun y => by omega
  have hz : bits .or .u64 ((x0 * 2 % 18446744073709551616 : Nat) : Int) 1 = ((x0 * 2 % 18446744073709551616 ||| 1 : Nat) : Int) := u64_or_nat _ 1 (by omega) (by decide)
  obtain ⟨o, ho⟩ : ∃ o, ownP A B = o := ⟨_, rfl⟩
  have m1 := mul_any K1 A B hK.1 lA lB
  have m2 := mul_any m A B lm lA lB
  have m3 := mul_any (2 * K1) A B l2 lA lB
  have m4 := mul_any (2 * K1 + 1) A B d2 lA lB
  have m5 := mul_any (8 * E.L) A B L8 lA lB
  have m6 := mul_base E.L (by decide +kernel)
  have cH := both_any K1 A B m A B hK.1 lA lB lm lA lB
  have a1 := add_pt (pmul K1 o) (pmul K1 o)
  have a2 := addRaw (pmul (2 * K1) o) A B lA lB
  have a3 := add_pt (pmul K1 o) (pmul m o)
  rw [ho] at m1 m2 m3 m4 m5 cH a2
  rw [← E.pmul_add, ← Nat.two_mul] at a1
  rw [show padd (pmul (2 * K1) o) o = pmul (2 * K1 + 1) o from rfl] at a2
  rw [E.all_zero] at m5
  rw [L_base] at m6
  have ss : ∀ p : Pt, ∀ w, (Op.equalIn 10000 26 (.agg (pv p).toArray) (.agg (pv p).toArray)).run Tryd.prog w = .ok true w := fun p w => by rw [eqPt, eqB_self]
  exact gen k (8 * E.L) E.L A B lA lB _ _ _ _ _ _ _ _ _ _ _ _ _ _ K1 m (2 * K1) (2 * K1 + 1) x0 x1 x2 x3 x hk hK.2.symm e3 _ _ _ _ _ _ _ _ _ _ _ (wr x0) (wr x1) (wr x2) (wr x) (dv x0) (dv x1) (dv x2)
    (u64_or_nat _ _ (by omega) (by omega)) (u64_or_nat _ _ (by omega) (by omega)) (u64_or_nat _ _ (by omega) (by omega)) hz d1.symm od.symm zero_pt base_pt eight_any order12 cH m1 m2 m3 m4 m5 m6 a1 a2 a3 (ss _) (ss _) (ss _) (ss _) w hI hB

set_option maxRecDepth 100000 in
theorem lifted (os : Os) (started : os.Started) (H : Type) (enc : TypeId × Value → H) :
    ReturnsInHanded {} Tryd.checked os 8 .any (fun w args => (Rows.edwardsTimesSpec.pre enc Tryd.prog Tryd.f8 [] false w args ∧ laidMetH Tryd.prog L4.laid1 w) ∧ sizedMet enc Tryd.prog Tryd.f8 (OpenSpec.ofChange Rows.edwardsTimesSpec) false w args) (Rows.edwardsTimesSpec.post enc Tryd.prog Tryd.f8 false true false false) := by
  refine returnsInHanded_of_change_and (C := Tryd.checked) (X := fun w _ => laidMetH Tryd.prog L4.laid1 w) (fun _ _ _ hh h => h.of_heap hh) own started (by kernel_rfl) Tryd.func8
    (ChangeSpec.witness_shaped (enc := enc) (C := Tryd.checked) (os := os) (X := fun w _ => laidMetH Tryd.prog L4.laid1 w) false (World.doorLaid Tryd.prog 400 os) #[.agg (C .u64 (Z 4)).toArray, .agg (C .u64 (Z 4)).toArray, .agg (C .u64 (Z 8)).toArray] 8 rfl (World.shaped_of_RefB (by kernel_rfl) (by kernel_rfl)) (by kernel_rfl) (by kernel_rfl) (by kernel_rfl) (L4.door_met os _)) ?_
  intro W base args ds gs before hval0 hW _ _ hLd _
  have hval : ∀ (j : Nat) t v, Tryd.f8.params[j]? = some t → args[j]? = some v → Value.okWide Tryd.prog W .any base t v := hval0
  have hW' := hW
  obtain ⟨p, q, hA0, hV, rfl, hfz, hnd⟩ := hW
  have hA : DataW.TrodAll enc Tryd.prog W 0 (fun _ => true) true Tryd.f8.params.toList args.toList ds p := hA0
  rw [Tryd.params8] at hA hval
  obtain ⟨v0, vs0, d0, ds0, p0, q0, hargs, rfl, rfl, h0, r0⟩ := trodAll_cons hA
  obtain ⟨v1, vs1, d1, ds1, p1, q1, rfl, rfl, rfl, h1, r1⟩ := trodAll_cons r0
  obtain ⟨v2, vs2, d2, ds2, p2, q2, rfl, rfl, rfl, h2, r2⟩ := trodAll_cons r1
  obtain ⟨rfl, rfl, rfl⟩ := trodAll_nil r2
  obtain rfl : args = #[v0, v1, v2] := by cases args; simp_all
  obtain ⟨rfl, rfl⟩ := trodVars_none hV
  have k0 := h0
  have lt0 : ∀ x ∈ p0, x.block < W.heap.size := by obtain ⟨m, hm⟩ := k0; exact DataW.trod_lt m _ _ _ hm
  have k1 := h1
  have lt1 : ∀ x ∈ p1, x.block < W.heap.size := by obtain ⟨m, hm⟩ := k1; exact DataW.trod_lt m _ _ _ hm
  have k2 := h2
  have lt2 : ∀ x ∈ p2, x.block < W.heap.size := by obtain ⟨m, hm⟩ := k2; exact DataW.trod_lt m _ _ _ hm
  obtain ⟨z0, rfl, hl0, hz0⟩ := open_array Tryd.underlying24 Tryd.underlying22 (by kernel_rfl) (by kernel_rfl) (hval 0 24 v0 rfl rfl) h0
  obtain ⟨n0, b0, e0⟩ := elem_of hl0 hz0
  obtain ⟨z1, rfl, hl1, hz1⟩ := open_array Tryd.underlying24 Tryd.underlying22 (by kernel_rfl) (by kernel_rfl) (hval 1 24 v1 rfl rfl) h1
  obtain ⟨n1, b1, e1⟩ := elem_of hl1 hz1
  obtain ⟨n2, m2, b2, c2, rfl⟩ := open_point (hval 2 26 v2 rfl rfl) h2
  rw [e0, e1] at hW' ⊢
  rw [e0] at k0
  rw [e1] at k1
  clear hA0 hval0
  refine (walk n0 b0 n1 b1 n2 m2 b2 c2 W (L4.of_laid hLd).1 (L4.of_laid hLd).2).mono fun e W' ⟨he, bel⟩ => ?_
  subst he
  exact ⟨_, rfl, _, _, _, [], _, [], hW', trodAll_mk1 (shut_bool Tryd.underlying4 _), (trodAll_cons_mk (Below.trod laidOut (by kernel_rfl) (of_decide_eq_true (by kernel_rfl)) k0 bel lt0) (trodAll_cons_mk (Below.trod laidOut (by kernel_rfl) (of_decide_eq_true (by kernel_rfl)) k1 bel lt1) (trodAll_cons_mk (Below.trod laidOut (by kernel_rfl) (of_decide_eq_true (by kernel_rfl)) k2 bel lt2) trodAll_mk0))), rfl, bel.frame _, fun h => by cases h⟩

theorem over : Rows.edwardsTimesRow.holds Tryd.pinned (OpenSpec.ofChange Rows.edwardsTimesSpec) :=
  OpenClaim.holds_of_wide 8 Tryd.f8 rfl rfl rfl rfl rfl rfl rfl ⟨rfl, rfl, rfl, rfl, rfl⟩ rfl rfl rfl rfl rfl (by kernel_rfl) Tryd.func8 (by kernel_rfl)
    (of_decide_eq_true (by kernel_rfl)) (by unfold Func.isWrapper; first | (rw [if_pos (by decide +kernel)]; kernel_rfl) | (rw [if_neg (by decide +kernel)]; exact ⟨rfl, rfl⟩))
    (fun os started H enc _ => lifted os started H enc)

end Go.Proofs.YthjlbcbkllaicaaDoor.edwardsTimes
namespace Go.Proofs.YthjlbcbkllaicaaDoor
/-- The given statement. -/
theorem edwardsTimes_proved : Rows.EdwardsTimesCardSaid :=
  Claim7.holds_tied_plain_at .later [] [.data, .data, .data, .data] true (true, "6c81ab964824856677c0d2b71b16e379ba1f889a55ffe6000620aa7cdde3cb5a") false
    edwardsTimes.over (fun _ h => by cases h) (by kernel_rfl) (fun _ h => by cases h) edwardsTimes_row_tie rfl ⟨rfl, rfl⟩ (by kernel_rfl) rfl
    (fun f fn hf hfn => by
      obtain rfl : f = 8 := Option.some.inj ((show Tryd.prog.funcNamed "affiant/affiantlaw13.EdwardsTimes" = some 8 by kernel_rfl).symm.trans hf) |>.symm
      obtain rfl : fn = Tryd.f8 := (Option.some.inj (Tryd.func8.symm.trans hfn)).symm
      exact ⟨by kernel_rfl, fun j t ht => by
        rw [Tryd.params8] at ht
        have hm : t ∈ ([24, 24, 26] : List TypeId) := by simpa using Array.mem_of_getElem? ht
        have hall : (([24, 24, 26] : List TypeId).all fun u => !Tryd.prog.wantsStandIn u) = true := by kernel_rfl
        exact (show Tryd.prog.wantsStandIn t = false by simpa using List.all_eq_true.1 hall t hm)⟩)
    (by kernel_rfl)
end Go.Proofs.YthjlbcbkllaicaaDoor
