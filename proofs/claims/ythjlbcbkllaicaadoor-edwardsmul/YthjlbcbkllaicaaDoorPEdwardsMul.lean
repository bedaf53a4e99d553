/-
  Proved: for every array k of four 64-bit words and every point p (of whatever two numbers) the law EdwardsMul returns true, and its arguments read as before. No conditions of ours; the packages' variables start as their initialisers lay them, as the given card ties it.
-/
import Derived.Test.YthjlbcbkllaicaaDoorRows
import Derived.Test.YthjlbcbkllaicaaDoorCards
import Derived.Test.YthjlbcbkllaicaaDoorTie
import Derived.SevenTiedAt
import Derived.Test.YthjlbcbkllaicaaDoorEpN
import Derived.Test.YthjlbcbkllaicaaDoorEdE
import Derived.WalkKit
import Derived.ProofKit
import Derived.OpenShut
import Derived.ShutString
import Derived.ChangeOld
import Derived.Below
namespace Go.Proofs.YthjlbcbkllaicaaDoor.edwardsMul
open Go.ChangeShapes Go.WideShapes Go.ChangeAt Go.RowKit
open F E
set_option linter.unusedVariables false
set_option maxRecDepth 10000

theorem own : ownKnob Tryd.prog.godebug = none := by kernel_rfl
theorem laidOut : laidOutB Tryd.prog = true := by kernel_rfl

set_option maxHeartbeats 8000000 in
theorem walk (k1 : Nat) (lk1 : k1 < 115792089237316195423570985008687907853269984665640564039457584007913129639936) (A B : Nat) (lA : A < 115792089237316195423570985008687907853269984665640564039457584007913129639936) (lB : B < 115792089237316195423570985008687907853269984665640564039457584007913129639936) (w : World) (hI : TI w) (hB : TB w) : Calls Tryd.prog 5 #[.agg (ec k1).toArray, .agg (pc A B).toArray] w fun e w' => e = .returned (.bool true) ∧ Below w.heap.size w w' := by
  obtain ⟨w2, h2, h⟩ := Fr.two w 24 26 (ec k1) (pc A B)
  have hE := hI.e
  have c1 := mul_any k1 A B lk1 lA lB
  have c2 := mul13_any k1 A B lk1 lA lB
  have s2 := fun w => eqPt w (pmul k1 (ownP A B)) (pmul k1 (ownP A B))
  rw [eqB_self] at s2
  obtain ⟨X, Y, hXY⟩ : ∃ X Y, pv (pmul k1 (ownP A B)) = pc X Y := ⟨_, _, rfl⟩
  rw [hXY] at c1 c2 s2
  clear hXY
  go_enter Tryd.func5, Tryd.ntmps5
  go_upto_region 1 with fail
  try simp only [Act.put, List.setIfInBounds_toArray, List.set_cons_zero, List.set_cons_succ, alloc_size, h2]
  clear h2
  replace h := h.drew
  refine wp_region_noPanic ?_
  refine wp_region_held_drew (S := fun w' => Row w' w.heap.size 24 (ec k1) ∧ Row w' (w.heap.size + 1) 26 (pc A B)) (by kernel_rfl) ⟨h.row (i := 0) rfl, h.row (i := 1) rfl⟩ (fun hHeld => ?_)
  refine allReadyH_oneL (i := 0) (by kernel_rfl) rfl (by rfl) (fun K hK => ?_)
  go_simp
  refine (alive13_true _ (hE.below h.bel) (hB.below h.bel)).mono ?_
  rintro _ wn ⟨rfl, hb⟩
  replace h := h.below hb
  clear hb
  refine hK.out _ _ ⟨h.row (i := 0) rfl, h.row (i := 1) rfl⟩ (fun hHeld => ?_)
  clear hK K
  refine wpAnyH_takeL (i := 1) (v := ?vt1) rfl (by kernel_rfl) (by kernel_rfl) (by kernel_rfl) (fun _ _ _ h => h) (by rfl) ?ht1 (by assumption) ?_
  case ht1 => intro w hSw; go_simp <;> with_reducible rfl
  simp only [Act.put, List.setIfInBounds_toArray, List.set_cons_zero, List.set_cons_succ]
  refine wpAnyH_takeL (i := 2) (v := (.agg (ec k1).toArray)) rfl (by kernel_rfl) (by kernel_rfl) (by kernel_rfl) (fun _ _ _ h => h) (by rfl) ?ht2 (by assumption) ?_
  case ht2 => intro w hSw; exact exec_load_W 24 _ rfl rfl hSw.1 Tryd.underlying24 rfl (ie4 _)
  simp only [Act.put, List.setIfInBounds_toArray, List.set_cons_zero, List.set_cons_succ]
  refine wpAnyH_takeL (i := 3) (v := (.agg (pc A B).toArray)) rfl (by kernel_rfl) (by kernel_rfl) (by kernel_rfl) (fun _ _ _ h => h) (by rfl) ?ht3 (by assumption) ?_
  case ht3 => intro w hSw; exact exec_load_W 26 _ rfl rfl hSw.2 Tryd.underlying26 rfl (iP _ _)
  simp only [Act.put, List.setIfInBounds_toArray, List.set_cons_zero, List.set_cons_succ]
  refine wpAnyH_takeL (i := 5) (v := (.agg (ec k1).toArray)) rfl (by kernel_rfl) (by kernel_rfl) (by kernel_rfl) (fun _ _ _ h => h) (by rfl) ?ht4 (by assumption) ?_
  case ht4 => intro w hSw; exact exec_load_W 24 _ rfl rfl hSw.1 Tryd.underlying24 rfl (ie4 _)
  simp only [Act.put, List.setIfInBounds_toArray, List.set_cons_zero, List.set_cons_succ]
  refine wpAnyH_takeL (i := 6) (v := (.agg (pc A B).toArray)) rfl (by kernel_rfl) (by kernel_rfl) (by kernel_rfl) (fun _ _ _ h => h) (by rfl) ?ht5 (by assumption) ?_
  case ht5 => intro w hSw; exact exec_load_W 26 _ rfl rfl hSw.2 Tryd.underlying26 rfl (iP _ _)
  simp only [Act.put, List.setIfInBounds_toArray, List.set_cons_zero, List.set_cons_succ]
  refine allReadyH_oneL (i := 4) (by kernel_rfl) rfl (by rfl) (fun K hK => ?_)
  go_simp
  refine (c1 _ (hI.below h.bel)).mono ?_
  rintro _ wn ⟨rfl, hb⟩
  replace h := h.below hb
  clear hb
  refine hK.out _ _ ⟨h.row (i := 0) rfl, h.row (i := 1) rfl⟩ (fun hHeld => ?_)
  clear hK K
  refine allReadyH_oneL (i := 7) (by kernel_rfl) rfl (by rfl) (fun K hK => ?_)
  go_simp
  refine (c2 _).mono ?_
  rintro _ wn ⟨rfl, hb⟩
  replace h := h.below hb
  clear hb
  refine hK.out _ _ ⟨h.row (i := 0) rfl, h.row (i := 1) rfl⟩ (fun hHeld => ?_)
  clear hK K
  refine wpAnyH_takeL (i := 8) (v := ?vt6) rfl (by kernel_rfl) (by kernel_rfl) (by kernel_rfl) (fun _ _ _ h => h) (by rfl) ?ht6 (by assumption) ?_
  case ht6 => intro w hSw; go_simp <;> with_reducible rfl
  simp only [Act.put, List.setIfInBounds_toArray, List.set_cons_zero, List.set_cons_succ]
  refine wpAnyH_takeL (i := 9) (v := ?vt7) rfl (by kernel_rfl) (by kernel_rfl) (by kernel_rfl) (fun _ _ _ h => h) (by rfl) ?ht7 (by assumption) ?_
  case ht7 => intro w hSw; go_simp <;> with_reducible rfl
  simp only [Act.put, List.setIfInBounds_toArray, List.set_cons_zero, List.set_cons_succ]
  refine wpAnyH_takeL (i := 10) (v := ?vt8) rfl (by kernel_rfl) (by kernel_rfl) (by kernel_rfl) (fun _ _ _ h => h) (by rfl) ?ht8 (by assumption) ?_
  case ht8 => intro w hSw; go_simp <;> with_reducible rfl
  simp only [Act.put, List.setIfInBounds_toArray, List.set_cons_zero, List.set_cons_succ]
  refine wpAnyH_done (by kernel_rfl) ?_ _
  refine NoPanic.normal ?_
  go_wp2
  go_ret
  exact ⟨rfl, h.bel⟩

set_option maxRecDepth 100000 in
theorem lifted (os : Os) (started : os.Started) (H : Type) (enc : TypeId × Value → H) :
    ReturnsInHanded {} Tryd.checked os 5 .any (fun w args => (Rows.edwardsMulSpec.pre enc Tryd.prog Tryd.f5 [] false w args ∧ laidMetH Tryd.prog L4.laid1 w) ∧ sizedMet enc Tryd.prog Tryd.f5 (OpenSpec.ofChange Rows.edwardsMulSpec) false w args) (Rows.edwardsMulSpec.post enc Tryd.prog Tryd.f5 false true false false) := by
  refine returnsInHanded_of_change_and (C := Tryd.checked) (X := fun w _ => laidMetH Tryd.prog L4.laid1 w) (fun _ _ _ hh h => h.of_heap hh) own started (by kernel_rfl) Tryd.func5
    (ChangeSpec.witness_shaped (enc := enc) (C := Tryd.checked) (os := os) (X := fun w _ => laidMetH Tryd.prog L4.laid1 w) false (World.doorLaid Tryd.prog 400 os) #[.agg (C .u64 (Z 4)).toArray, .agg (C .u64 (Z 8)).toArray] 8 rfl (World.shaped_of_RefB (by kernel_rfl) (by kernel_rfl)) (by kernel_rfl) (by kernel_rfl) (by kernel_rfl) (L4.door_met os _)) ?_
  intro W base args ds gs before hval0 hW _ _ hLd _
  have hval : ∀ (j : Nat) t v, Tryd.f5.params[j]? = some t → args[j]? = some v → Value.okWide Tryd.prog W .any base t v := hval0
  have hW' := hW
  obtain ⟨p, q, hA0, hV, rfl, hfz, hnd⟩ := hW
  have hA : DataW.TrodAll enc Tryd.prog W 0 (fun _ => true) true Tryd.f5.params.toList args.toList ds p := hA0
  rw [Tryd.params5] at hA hval
  obtain ⟨v0, vs0, d0, ds0, p0, q0, hargs, rfl, rfl, h0, r0⟩ := trodAll_cons hA
  obtain ⟨v1, vs1, d1, ds1, p1, q1, rfl, rfl, rfl, h1, r1⟩ := trodAll_cons r0
  obtain ⟨rfl, rfl, rfl⟩ := trodAll_nil r1
  obtain rfl : args = #[v0, v1] := by cases args; simp_all
  obtain ⟨rfl, rfl⟩ := trodVars_none hV
  have k0 := h0
  have lt0 : ∀ x ∈ p0, x.block < W.heap.size := by obtain ⟨m, hm⟩ := k0; exact DataW.trod_lt m _ _ _ hm
  have k1 := h1
  have lt1 : ∀ x ∈ p1, x.block < W.heap.size := by obtain ⟨m, hm⟩ := k1; exact DataW.trod_lt m _ _ _ hm
  obtain ⟨z0, rfl, hl0, hz0⟩ := open_array Tryd.underlying24 Tryd.underlying22 (by kernel_rfl) (by kernel_rfl) (hval 0 24 v0 rfl rfl) h0
  obtain ⟨n0, b0, e0⟩ := elem_of hl0 hz0
  obtain ⟨n1, m1, b1, c1, rfl⟩ := open_point (hval 1 26 v1 rfl rfl) h1
  rw [e0] at hW' ⊢
  rw [e0] at k0
  clear hA0 hval0
  refine (walk n0 b0 n1 m1 b1 c1 W (L4.of_laid hLd).1 (L4.of_laid hLd).2).mono fun e W' ⟨he, bel⟩ => ?_
  subst he
  exact ⟨_, rfl, _, _, _, [], _, [], hW', trodAll_mk1 (shut_bool Tryd.underlying4 _), (trodAll_cons_mk (Below.trod laidOut (by kernel_rfl) (of_decide_eq_true (by kernel_rfl)) k0 bel lt0) (trodAll_cons_mk (Below.trod laidOut (by kernel_rfl) (of_decide_eq_true (by kernel_rfl)) k1 bel lt1) trodAll_mk0)), rfl, bel.frame _, fun h => by cases h⟩

theorem over : Rows.edwardsMulRow.holds Tryd.pinned (OpenSpec.ofChange Rows.edwardsMulSpec) :=
  OpenClaim.holds_of_wide 5 Tryd.f5 rfl rfl rfl rfl rfl rfl rfl ⟨rfl, rfl, rfl, rfl, rfl⟩ rfl rfl rfl rfl rfl (by kernel_rfl) Tryd.func5 (by kernel_rfl)
    (of_decide_eq_true (by kernel_rfl)) (by unfold Func.isWrapper; first | (rw [if_pos (by decide +kernel)]; kernel_rfl) | (rw [if_neg (by decide +kernel)]; exact ⟨rfl, rfl⟩))
    (fun os started H enc _ => lifted os started H enc)

end Go.Proofs.YthjlbcbkllaicaaDoor.edwardsMul
namespace Go.Proofs.YthjlbcbkllaicaaDoor
/-- The given statement. -/
theorem edwardsMul_proved : Rows.EdwardsMulCardSaid :=
  Claim7.holds_tied_plain_at .later [] [.data, .data, .data, .data] true (true, "6c81ab964824856677c0d2b71b16e379ba1f889a55ffe6000620aa7cdde3cb5a") false
    edwardsMul.over (fun _ h => by cases h) (by kernel_rfl) (fun _ h => by cases h) edwardsMul_row_tie rfl ⟨rfl, rfl⟩ (by kernel_rfl) rfl
    (fun f fn hf hfn => by
      obtain rfl : f = 5 := Option.some.inj ((show Tryd.prog.funcNamed "affiant/affiantlaw13.EdwardsMul" = some 5 by kernel_rfl).symm.trans hf) |>.symm
      obtain rfl : fn = Tryd.f5 := (Option.some.inj (Tryd.func5.symm.trans hfn)).symm
      exact ⟨by kernel_rfl, fun j t ht => by
        rw [Tryd.params5] at ht
        have hm : t ∈ ([24, 26] : List TypeId) := by simpa using Array.mem_of_getElem? ht
        have hall : (([24, 26] : List TypeId).all fun u => !Tryd.prog.wantsStandIn u) = true := by kernel_rfl
        exact (show Tryd.prog.wantsStandIn t = false by simpa using List.all_eq_true.1 hall t hm)⟩)
    (by kernel_rfl)
end Go.Proofs.YthjlbcbkllaicaaDoor
