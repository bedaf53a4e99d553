/-
  Proved: for every point p (of whatever two numbers) the law EdwardsOn returns true, and its arguments read as before. No conditions of ours; the packages' variables start as their initialisers lay them, as the given card ties it.
-/
import Derived.Test.YthjlbcbkllaicaaDoorRows
import Derived.Test.YthjlbcbkllaicaaDoorCards
import Derived.Test.YthjlbcbkllaicaaDoorTie
import Derived.SevenTiedAt
import Derived.Test.YthjlbcbkllaicaaDoorEpN
import Derived.WalkKit
import Derived.ProofKit
import Derived.OpenShut
import Derived.ShutString
import Derived.ChangeOld
import Derived.Below
namespace Go.Proofs.YthjlbcbkllaicaaDoor.edwardsOn
open Go.ChangeShapes Go.WideShapes Go.ChangeAt Go.RowKit
open F E
set_option linter.unusedVariables false
set_option maxRecDepth 10000

theorem own : ownKnob Tryd.prog.godebug = none := by kernel_rfl
theorem laidOut : laidOutB Tryd.prog = true := by kernel_rfl

set_option maxHeartbeats 8000000 in
theorem walk (A B : Nat) (lA : A < 115792089237316195423570985008687907853269984665640564039457584007913129639936) (lB : B < 115792089237316195423570985008687907853269984665640564039457584007913129639936) (w : World) (hE : TE w) (hB : TB w) : Calls Tryd.prog 3 #[.agg (pc A B).toArray] w fun e w' => e = .returned (.bool true) ∧ Below w.heap.size w w' := by
  have h := Fr.one w 26 (pc A B)
  have hP := hE.p
  have c1 := on_any A B lA lB
  have c2 := on13_any A B lA lB
  have c3 := neg_any A B lA lB
  have c4 := neg13_any A B lA lB
  have c5 := pack_any A B lA lB
  have c6 := pack13_any A B lA lB
  have c7 := zero_el
  have c8 := zero13_any
  have c9 := base_el
  have c10 := base13_any
  have s0 := fun w => eqP w 0 1 0 1 (by decide) (by decide) (by decide) (by decide)
  have s1 := fun w => eqPt w Bpt Bpt
  rw [pv_B] at s1
  rw [eqB_self] at s1
  have s2 := fun w => eqPt w (pneg (ownP A B)) (pneg (ownP A B))
  rw [eqB_self] at s2
  have s3 := fun w => eq32 w (pk (ownP A B)) (pk (ownP A B)) (pk_length _) (pk_length _)
  rw [decide_eq_true (rfl : pk (ownP A B) = pk (ownP A B))] at s3
  rw [show (decide (0 = 0) && decide (1 = 1)) = true from rfl] at s0
  obtain ⟨b, hb⟩ : ∃ b, onB A B = b := ⟨_, rfl⟩
  rw [hb] at c1 c2
  obtain ⟨X, Y, hXY⟩ : ∃ X Y, pv (pneg (ownP A B)) = pc X Y := ⟨_, _, rfl⟩
  rw [hXY] at c3 c4 s2
  obtain ⟨L, hL⟩ : ∃ L, pk (ownP A B) = L := ⟨_, rfl⟩
  rw [hL] at c5 c6 s3
  obtain ⟨X0, hX0⟩ : ∃ X, 0 = X := ⟨_, rfl⟩
  obtain ⟨Y0, hY0⟩ : ∃ X, 1 = X := ⟨_, rfl⟩
  obtain ⟨Z0, hZ0⟩ : ∃ L, pc 0 1 = L := ⟨_, rfl⟩
  rw [hZ0] at c7 c8 s0
  obtain ⟨Z1, hZ1⟩ : ∃ L, pc Bx By = L := ⟨_, rfl⟩
  rw [hZ1] at c9 c10 s1
  clear hb hXY hL hX0 hY0 hZ0 hZ1
  go_enter Tryd.func3, Tryd.ntmps3
  go_upto_region 1 with fail
  replace h := h.drew
  refine wp_region_noPanic ?_
  refine wp_region_held_drew (S := fun w' => Row w' w.heap.size 26 (pc A B)) (by kernel_rfl) (h.row (i := 0) rfl) (fun hHeld => ?_)
  refine allReadyH_oneL (i := 0) (by kernel_rfl) rfl (by rfl) (fun K hK => ?_)
  go_simp
  refine (alive13_true _ (hE.below h.bel) (hB.below h.bel)).mono ?_
  rintro _ wn ⟨rfl, hb⟩
  replace h := h.below hb
  clear hb
  refine hK.out _ _ (h.row (i := 0) rfl) (fun hHeld => ?_)
  clear hK K
  refine wpAnyH_takeL (i := 1) (v := ?vt1) rfl (by kernel_rfl) (by kernel_rfl) (by kernel_rfl) (fun _ _ _ h => h) (by rfl) ?ht1 (by assumption) ?_
  case ht1 => intro w hSw; go_simp <;> with_reducible rfl
  simp only [Act.put, List.setIfInBounds_toArray, List.set_cons_zero, List.set_cons_succ]
  refine wpAnyH_takeL (i := 2) (v := (.agg (pc A B).toArray)) rfl (by kernel_rfl) (by kernel_rfl) (by kernel_rfl) (fun _ _ _ h => h) (by rfl) ?ht2 (by assumption) ?_
  case ht2 => intro w hSw; exact exec_load_W 26 _ rfl rfl hSw Tryd.underlying26 rfl (iP _ _)
  simp only [Act.put, List.setIfInBounds_toArray, List.set_cons_zero, List.set_cons_succ]
  refine wpAnyH_takeL (i := 4) (v := (.agg (pc A B).toArray)) rfl (by kernel_rfl) (by kernel_rfl) (by kernel_rfl) (fun _ _ _ h => h) (by rfl) ?ht3 (by assumption) ?_
  case ht3 => intro w hSw; exact exec_load_W 26 _ rfl rfl hSw Tryd.underlying26 rfl (iP _ _)
  simp only [Act.put, List.setIfInBounds_toArray, List.set_cons_zero, List.set_cons_succ]
  refine allReadyH_oneL (i := 3) (by kernel_rfl) rfl (by rfl) (fun K hK => ?_)
  go_simp
  refine (c1 _ (hE.below h.bel)).mono ?_
  rintro _ wn ⟨rfl, hb⟩
  replace h := h.below hb
  clear hb
  refine hK.out _ _ (h.row (i := 0) rfl) (fun hHeld => ?_)
  clear hK K
  refine allReadyH_oneL (i := 5) (by kernel_rfl) rfl (by rfl) (fun K hK => ?_)
  go_simp
  refine (c2 _).mono ?_
  rintro _ wn ⟨rfl, hb⟩
  replace h := h.below hb
  clear hb
  refine hK.out _ _ (h.row (i := 0) rfl) (fun hHeld => ?_)
  clear hK K
  refine wpAnyH_takeL (i := 6) (v := ?vt4) rfl (by kernel_rfl) (by kernel_rfl) (by kernel_rfl) (fun _ _ _ h => h) (by rfl) ?ht4 (by assumption) ?_
  case ht4 => intro w hSw; go_simp <;> with_reducible rfl
  simp only [Act.put, List.setIfInBounds_toArray, List.set_cons_zero, List.set_cons_succ]
  refine wpAnyH_takeL (i := 7) (v := ?vt5) rfl (by kernel_rfl) (by kernel_rfl) (by kernel_rfl) (fun _ _ _ h => h) (by rfl) ?ht5 (by assumption) ?_
  case ht5 => intro w hSw; go_simp <;> with_reducible rfl
  simp only [Act.put, List.setIfInBounds_toArray, List.set_cons_zero, List.set_cons_succ]
  refine wpAnyH_takeL (i := 8) (v := ?vt6) rfl (by kernel_rfl) (by kernel_rfl) (by kernel_rfl) (fun _ _ _ h => h) (by rfl) ?ht6 (by assumption) ?_
  case ht6 => intro w hSw; go_simp <;> with_reducible rfl
  simp only [Act.put, List.setIfInBounds_toArray, List.set_cons_zero, List.set_cons_succ]
  refine wpAnyH_takeL (i := 9) (v := (.agg (pc A B).toArray)) rfl (by kernel_rfl) (by kernel_rfl) (by kernel_rfl) (fun _ _ _ h => h) (by rfl) ?ht7 (by assumption) ?_
  case ht7 => intro w hSw; exact exec_load_W 26 _ rfl rfl hSw Tryd.underlying26 rfl (iP _ _)
  simp only [Act.put, List.setIfInBounds_toArray, List.set_cons_zero, List.set_cons_succ]
  refine wpAnyH_takeL (i := 11) (v := (.agg (pc A B).toArray)) rfl (by kernel_rfl) (by kernel_rfl) (by kernel_rfl) (fun _ _ _ h => h) (by rfl) ?ht8 (by assumption) ?_
  case ht8 => intro w hSw; exact exec_load_W 26 _ rfl rfl hSw Tryd.underlying26 rfl (iP _ _)
  simp only [Act.put, List.setIfInBounds_toArray, List.set_cons_zero, List.set_cons_succ]
  refine allReadyH_oneL (i := 10) (by kernel_rfl) rfl (by rfl) (fun K hK => ?_)
  go_simp
  refine (c3 _ (hE.below h.bel)).mono ?_
  rintro _ wn ⟨rfl, hb⟩
  replace h := h.below hb
  clear hb
  refine hK.out _ _ (h.row (i := 0) rfl) (fun hHeld => ?_)
  clear hK K
  refine allReadyH_oneL (i := 12) (by kernel_rfl) rfl (by rfl) (fun K hK => ?_)
  go_simp
  refine (c4 _).mono ?_
  rintro _ wn ⟨rfl, hb⟩
  replace h := h.below hb
  clear hb
  refine hK.out _ _ (h.row (i := 0) rfl) (fun hHeld => ?_)
  clear hK K
  refine wpAnyH_takeL (i := 13) (v := ?vt9) rfl (by kernel_rfl) (by kernel_rfl) (by kernel_rfl) (fun _ _ _ h => h) (by rfl) ?ht9 (by assumption) ?_
  case ht9 => intro w hSw; go_simp <;> with_reducible rfl
  simp only [Act.put, List.setIfInBounds_toArray, List.set_cons_zero, List.set_cons_succ]
  refine wpAnyH_takeL (i := 14) (v := ?vt10) rfl (by kernel_rfl) (by kernel_rfl) (by kernel_rfl) (fun _ _ _ h => h) (by rfl) ?ht10 (by assumption) ?_
  case ht10 => intro w hSw; go_simp <;> with_reducible rfl
  simp only [Act.put, List.setIfInBounds_toArray, List.set_cons_zero, List.set_cons_succ]
  refine wpAnyH_takeL (i := 15) (v := ?vt11) rfl (by kernel_rfl) (by kernel_rfl) (by kernel_rfl) (fun _ _ _ h => h) (by rfl) ?ht11 (by assumption) ?_
  case ht11 => intro w hSw; go_simp <;> with_reducible rfl
  simp only [Act.put, List.setIfInBounds_toArray, List.set_cons_zero, List.set_cons_succ]
  refine wpAnyH_takeL (i := 16) (v := (.agg (pc A B).toArray)) rfl (by kernel_rfl) (by kernel_rfl) (by kernel_rfl) (fun _ _ _ h => h) (by rfl) ?ht12 (by assumption) ?_
  case ht12 => intro w hSw; exact exec_load_W 26 _ rfl rfl hSw Tryd.underlying26 rfl (iP _ _)
  simp only [Act.put, List.setIfInBounds_toArray, List.set_cons_zero, List.set_cons_succ]
  refine wpAnyH_takeL (i := 18) (v := (.agg (pc A B).toArray)) rfl (by kernel_rfl) (by kernel_rfl) (by kernel_rfl) (fun _ _ _ h => h) (by rfl) ?ht13 (by assumption) ?_
  case ht13 => intro w hSw; exact exec_load_W 26 _ rfl rfl hSw Tryd.underlying26 rfl (iP _ _)
  simp only [Act.put, List.setIfInBounds_toArray, List.set_cons_zero, List.set_cons_succ]
  refine allReadyH_oneL (i := 17) (by kernel_rfl) rfl (by rfl) (fun K hK => ?_)
  go_simp
  refine (c5 _ (hE.below h.bel)).mono ?_
  rintro _ wn ⟨rfl, hb⟩
  replace h := h.below hb
  clear hb
  refine hK.out _ _ (h.row (i := 0) rfl) (fun hHeld => ?_)
  clear hK K
  refine allReadyH_oneL (i := 19) (by kernel_rfl) rfl (by rfl) (fun K hK => ?_)
  go_simp
  refine (c6 _).mono ?_
  rintro _ wn ⟨rfl, hb⟩
  replace h := h.below hb
  clear hb
  refine hK.out _ _ (h.row (i := 0) rfl) (fun hHeld => ?_)
  clear hK K
  refine wpAnyH_takeL (i := 20) (v := ?vt14) rfl (by kernel_rfl) (by kernel_rfl) (by kernel_rfl) (fun _ _ _ h => h) (by rfl) ?ht14 (by assumption) ?_
  case ht14 => intro w hSw; go_simp <;> with_reducible rfl
  simp only [Act.put, List.setIfInBounds_toArray, List.set_cons_zero, List.set_cons_succ]
  refine wpAnyH_takeL (i := 21) (v := ?vt15) rfl (by kernel_rfl) (by kernel_rfl) (by kernel_rfl) (fun _ _ _ h => h) (by rfl) ?ht15 (by assumption) ?_
  case ht15 => intro w hSw; go_simp <;> with_reducible rfl
  simp only [Act.put, List.setIfInBounds_toArray, List.set_cons_zero, List.set_cons_succ]
  refine wpAnyH_takeL (i := 22) (v := ?vt16) rfl (by kernel_rfl) (by kernel_rfl) (by kernel_rfl) (fun _ _ _ h => h) (by rfl) ?ht16 (by assumption) ?_
  case ht16 => intro w hSw; go_simp <;> with_reducible rfl
  simp only [Act.put, List.setIfInBounds_toArray, List.set_cons_zero, List.set_cons_succ]
  refine allReadyH_oneL (i := 23) (by kernel_rfl) rfl (by rfl) (fun K hK => ?_)
  go_simp
  refine (c7 _).mono ?_
  rintro _ wn ⟨rfl, hb⟩
  replace h := h.below hb
  clear hb
  refine hK.out _ _ (h.row (i := 0) rfl) (fun hHeld => ?_)
  clear hK K
  refine allReadyH_oneL (i := 24) (by kernel_rfl) rfl (by rfl) (fun K hK => ?_)
  go_simp
  refine (c8 _).mono ?_
  rintro _ wn ⟨rfl, hb⟩
  replace h := h.below hb
  clear hb
  refine hK.out _ _ (h.row (i := 0) rfl) (fun hHeld => ?_)
  clear hK K
  refine wpAnyH_takeL (i := 25) (v := ?vt17) rfl (by kernel_rfl) (by kernel_rfl) (by kernel_rfl) (fun _ _ _ h => h) (by rfl) ?ht17 (by assumption) ?_
  case ht17 => intro w hSw; go_simp <;> with_reducible rfl
  simp only [Act.put, List.setIfInBounds_toArray, List.set_cons_zero, List.set_cons_succ]
  refine wpAnyH_takeL (i := 26) (v := ?vt18) rfl (by kernel_rfl) (by kernel_rfl) (by kernel_rfl) (fun _ _ _ h => h) (by rfl) ?ht18 (by assumption) ?_
  case ht18 => intro w hSw; go_simp <;> with_reducible rfl
  simp only [Act.put, List.setIfInBounds_toArray, List.set_cons_zero, List.set_cons_succ]
  refine wpAnyH_takeL (i := 27) (v := ?vt19) rfl (by kernel_rfl) (by kernel_rfl) (by kernel_rfl) (fun _ _ _ h => h) (by rfl) ?ht19 (by assumption) ?_
  case ht19 => intro w hSw; go_simp <;> with_reducible rfl
  simp only [Act.put, List.setIfInBounds_toArray, List.set_cons_zero, List.set_cons_succ]
  refine allReadyH_oneL (i := 28) (by kernel_rfl) rfl (by rfl) (fun K hK => ?_)
  go_simp
  refine (c9 _ (hB.below h.bel)).mono ?_
  rintro _ wn ⟨rfl, hb⟩
  replace h := h.below hb
  clear hb
  refine hK.out _ _ (h.row (i := 0) rfl) (fun hHeld => ?_)
  clear hK K
  refine allReadyH_oneL (i := 29) (by kernel_rfl) rfl (by rfl) (fun K hK => ?_)
  go_simp
  refine (c10 _).mono ?_
  rintro _ wn ⟨rfl, hb⟩
  replace h := h.below hb
  clear hb
  refine hK.out _ _ (h.row (i := 0) rfl) (fun hHeld => ?_)
  clear hK K
  refine wpAnyH_takeL (i := 30) (v := ?vt20) rfl (by kernel_rfl) (by kernel_rfl) (by kernel_rfl) (fun _ _ _ h => h) (by rfl) ?ht20 (by assumption) ?_
  case ht20 => intro w hSw; go_simp <;> with_reducible rfl
  simp only [Act.put, List.setIfInBounds_toArray, List.set_cons_zero, List.set_cons_succ]
  refine wpAnyH_takeL (i := 31) (v := ?vt21) rfl (by kernel_rfl) (by kernel_rfl) (by kernel_rfl) (fun _ _ _ h => h) (by rfl) ?ht21 (by assumption) ?_
  case ht21 => intro w hSw; go_simp <;> with_reducible rfl
  simp only [Act.put, List.setIfInBounds_toArray, List.set_cons_zero, List.set_cons_succ]
  refine wpAnyH_takeL (i := 32) (v := ?vt22) rfl (by kernel_rfl) (by kernel_rfl) (by kernel_rfl) (fun _ _ _ h => h) (by rfl) ?ht22 (by assumption) ?_
  case ht22 => intro w hSw; go_simp <;> with_reducible rfl
  simp only [Act.put, List.setIfInBounds_toArray, List.set_cons_zero, List.set_cons_succ]
  refine wpAnyH_done (by kernel_rfl) ?_ _
  refine NoPanic.normal ?_
  go_wp2
  go_ret
  exact ⟨rfl, h.bel⟩

set_option maxRecDepth 100000 in
theorem lifted (os : Os) (started : os.Started) (H : Type) (enc : TypeId × Value → H) :
    ReturnsInHanded {} Tryd.checked os 3 .any (fun w args => (Rows.edwardsOnSpec.pre enc Tryd.prog Tryd.f3 [] false w args ∧ laidMetH Tryd.prog L3.laid1 w) ∧ sizedMet enc Tryd.prog Tryd.f3 (OpenSpec.ofChange Rows.edwardsOnSpec) false w args) (Rows.edwardsOnSpec.post enc Tryd.prog Tryd.f3 false true false false) := by
  refine returnsInHanded_of_change_and (C := Tryd.checked) (X := fun w _ => laidMetH Tryd.prog L3.laid1 w) (fun _ _ _ hh h => h.of_heap hh) own started (by kernel_rfl) Tryd.func3
    (ChangeSpec.witness_shaped (enc := enc) (C := Tryd.checked) (os := os) (X := fun w _ => laidMetH Tryd.prog L3.laid1 w) false (World.doorLaid Tryd.prog 400 os) #[.agg (C .u64 (Z 8)).toArray] 8 rfl (World.shaped_of_RefB (by kernel_rfl) (by kernel_rfl)) (by kernel_rfl) (by kernel_rfl) (by kernel_rfl) (L3.door_met os _)) ?_
  intro W base args ds gs before hval0 hW _ _ hLd _
  have hval : ∀ (j : Nat) t v, Tryd.f3.params[j]? = some t → args[j]? = some v → Value.okWide Tryd.prog W .any base t v := hval0
  have hW' := hW
  obtain ⟨p, q, hA0, hV, rfl, hfz, hnd⟩ := hW
  have hA : DataW.TrodAll enc Tryd.prog W 0 (fun _ => true) true Tryd.f3.params.toList args.toList ds p := hA0
  rw [Tryd.params3] at hA hval
  obtain ⟨v0, vs0, d0, ds0, p0, q0, hargs, rfl, rfl, h0, r0⟩ := trodAll_cons hA
  obtain ⟨rfl, rfl, rfl⟩ := trodAll_nil r0
  obtain rfl : args = #[v0] := by cases args; simp_all
  obtain ⟨rfl, rfl⟩ := trodVars_none hV
  have k0 := h0
  have lt0 : ∀ x ∈ p0, x.block < W.heap.size := by obtain ⟨m, hm⟩ := k0; exact DataW.trod_lt m _ _ _ hm
  obtain ⟨n0, m0, b0, c0, rfl⟩ := open_point (hval 0 26 v0 rfl rfl) h0
  clear hA0 hval0
  refine (walk n0 m0 b0 c0 W (L3.of_laid hLd).1 (L3.of_laid hLd).2).mono fun e W' ⟨he, bel⟩ => ?_
  subst he
  exact ⟨_, rfl, _, _, _, [], _, [], hW', trodAll_mk1 (shut_bool Tryd.underlying4 _), (trodAll_cons_mk (Below.trod laidOut (by kernel_rfl) (of_decide_eq_true (by kernel_rfl)) k0 bel lt0) trodAll_mk0), rfl, bel.frame _, fun h => by cases h⟩

theorem over : Rows.edwardsOnRow.holds Tryd.pinned (OpenSpec.ofChange Rows.edwardsOnSpec) :=
  OpenClaim.holds_of_wide 3 Tryd.f3 rfl rfl rfl rfl rfl rfl rfl ⟨rfl, rfl, rfl, rfl, rfl⟩ rfl rfl rfl rfl rfl (by kernel_rfl) Tryd.func3 (by kernel_rfl)
    (of_decide_eq_true (by kernel_rfl)) (by unfold Func.isWrapper; first | (rw [if_pos (by decide +kernel)]; kernel_rfl) | (rw [if_neg (by decide +kernel)]; exact ⟨rfl, rfl⟩))
    (fun os started H enc _ => lifted os started H enc)

end Go.Proofs.YthjlbcbkllaicaaDoor.edwardsOn
namespace Go.Proofs.YthjlbcbkllaicaaDoor
/-- The given statement. -/
theorem edwardsOn_proved : Rows.EdwardsOnCardSaid :=
  Claim7.holds_tied_plain_at .later [] [.data, .data, .data] true (true, "6c81ab964824856677c0d2b71b16e379ba1f889a55ffe6000620aa7cdde3cb5a") false
    edwardsOn.over (fun _ h => by cases h) (by kernel_rfl) (fun _ h => by cases h) edwardsOn_row_tie rfl ⟨rfl, rfl⟩ (by kernel_rfl) rfl
    (fun f fn hf hfn => by
      obtain rfl : f = 3 := Option.some.inj ((show Tryd.prog.funcNamed "affiant/affiantlaw13.EdwardsOn" = some 3 by kernel_rfl).symm.trans hf) |>.symm
      obtain rfl : fn = Tryd.f3 := (Option.some.inj (Tryd.func3.symm.trans hfn)).symm
      exact ⟨by kernel_rfl, fun j t ht => by
        rw [Tryd.params3] at ht
        have hm : t ∈ ([26] : List TypeId) := by simpa using Array.mem_of_getElem? ht
        have hall : (([26] : List TypeId).all fun u => !Tryd.prog.wantsStandIn u) = true := by kernel_rfl
        exact (show Tryd.prog.wantsStandIn t = false by simpa using List.all_eq_true.1 hall t hm)⟩)
    (by kernel_rfl)
end Go.Proofs.YthjlbcbkllaicaaDoor
