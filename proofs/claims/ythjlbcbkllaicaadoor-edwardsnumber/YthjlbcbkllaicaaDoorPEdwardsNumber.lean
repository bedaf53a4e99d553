/-
  Proved: the law EdwardsNumber returns true. No conditions of ours; the packages' variables start as their initialisers lay them, as the given card ties it.
-/
import Derived.Test.YthjlbcbkllaicaaDoorRows
import Derived.Test.YthjlbcbkllaicaaDoorCards
import Derived.Test.YthjlbcbkllaicaaDoorTie
import Derived.SevenTiedAt
import Derived.Test.YthjlbcbkllaicaaDoorEpN
import Derived.WalkKit
import Derived.ProofKit
import Derived.OpenShut
import Derived.ShutString
import Derived.ChangeOld
import Derived.Below
namespace Go.Proofs.YthjlbcbkllaicaaDoor.edwardsNumber
open Go.ChangeShapes Go.WideShapes Go.ChangeAt Go.RowKit
open F
set_option linter.unusedVariables false
set_option maxRecDepth 10000

theorem own : ownKnob Tryd.prog.godebug = none := by kernel_rfl
theorem laidOut : laidOutB Tryd.prog = true := by kernel_rfl

theorem exec_field_x {w : World} {o : Oper} {ev : Operand → Value} (x : Operand) (ho : o.op = .field 26 x 0) {A B : Nat} (hx : ev x = .agg (pc A B).toArray) : (execOp ev o).run Tryd.prog w = .ok (.value (.agg (ec A).toArray)) w := by
  unfold execOp
  simp only [ho, hx]
  kernel_rfl
theorem exec_field_y {w : World} {o : Oper} {ev : Operand → Value} (x : Operand) (ho : o.op = .field 26 x 1) {A B : Nat} (hx : ev x = .agg (pc A B).toArray) : (execOp ev o).run Tryd.prog w = .ok (.value (.agg (ec B).toArray)) w := by
  unfold execOp
  simp only [ho, hx]
  kernel_rfl
theorem exec_index_0 {w : World} {o : Oper} {ev : Operand → Value} (x : Operand) (ho : o.op = .index 24 x (.const (.int .i64 0))) {A : Nat} (hx : ev x = .agg (ec A).toArray) (hc : ev (.const (.int .i64 0)) = .int .i64 0) : (execOp ev o).run Tryd.prog w = .ok (.value (.int .u64 ((A % 18446744073709551616 : Nat) : Int))) w := by
  unfold execOp
  simp only [ho, hx, hc]
  kernel_rfl
theorem num_eq : Dn * 121666 % P = (0 % P + (P - 121665 % P)) % P := by decide +kernel
theorem By5 : By * 5 % P = 4 := by decide +kernel
theorem Bx_even : bits .and .u64 ((Bx % 18446744073709551616 : Nat) : Int) 1 = 0 := by decide +kernel
theorem v121665 : Value.agg (ec 121665).toArray = .agg #[.int .u64 121665, .int .u64 0, .int .u64 0, .int .u64 0] := by kernel_rfl
theorem v00 : Value.agg (ec 0).toArray = .agg #[.int .u64 0, .int .u64 0, .int .u64 0, .int .u64 0] := by kernel_rfl
set_option maxHeartbeats 4000000 in
theorem gen (D nm X1 Y1 xw : Nat) (hix : X1 % 18446744073709551616 = xw) (hxw : bits .and .u64 (xw : Int) 1 = 0)
    (cD : ∀ (w : World), Calls Tryd.prog 31 #[] w fun e w' => e = .returned (.agg (ec D).toArray) ∧ Below w.heap.size w w')
    (cS : ∀ (w : World), Tab w → Calls Tryd.prog 32 #[.agg #[.int .u64 0, .int .u64 0, .int .u64 0, .int .u64 0], .agg #[.int .u64 121665, .int .u64 0, .int .u64 0, .int .u64 0]] w fun e w' => e = .returned (.agg (ec nm).toArray) ∧ Below w.heap.size w w')
    (cM : ∀ (w : World), Tab w → Calls Tryd.prog 33 #[.agg (ec D).toArray, .agg (ec 121666).toArray] w fun e w' => e = .returned (.agg (ec nm).toArray) ∧ Below w.heap.size w w')
    (cF : ∀ (w : World), Tab w → Calls Tryd.prog 33 #[.agg (ec Y1).toArray, .agg (ec 5).toArray] w fun e w' => e = .returned (.agg (ec 4).toArray) ∧ Below w.heap.size w w')
    (cB : ∀ (w : World), TB w → Calls Tryd.prog 20 #[] w fun e w' => e = .returned (.agg (pc X1 Y1).toArray) ∧ Below w.heap.size w w')
    (sM : ∀ w, (Op.equalIn 10000 24 (.agg (ec nm).toArray) (.agg (ec nm).toArray)).run Tryd.prog w = .ok true w)
    (s4 : ∀ w, (Op.equalIn 10000 24 (.agg (ec 4).toArray) (.agg (ec 4).toArray)).run Tryd.prog w = .ok true w)
    (w : World) (hE : TE w) (hB : TB w) : Calls Tryd.prog 10 #[] w fun e w' => e = .returned (.bool true) ∧ Below w.heap.size w w' := by
  have hP := hE.p
  have h := Fr.start w
  go_enter Tryd.func10, Tryd.ntmps10
  go_wp2_with fail
  refine (cD _).mono ?_
  rintro _ wn ⟨rfl, hb⟩
  replace h := h.below hb
  clear hb
  obtain ⟨g1, hgq, hq⟩ := h.more 0 24 (ec 0)
  replace hq : Fr w _ [(g1, 24, ec 0)] := hq
  go_upto_region 2 with (first | refine wpList_alloc_row rfl 24 rfl _ z4w ?_ | (refine wpList_store_R rfl 24 _ _ rfl _ (ec D) (congrArg (fun g => Value.pointer (some ⟨g, 0, none⟩)) hgq) rfl (hq.row (i := 0) rfl) (ie4 _) rfl (ec_all _) ?_; intro wz q hg hz))
  replace h : Fr w wz [(g1, 24, ec D)] := hq.put (i := 0) rfl q hg
  try rw [hgq]
  clear q hg hz hq hgq
  go_wp2_with fail
  refine (cS _ (hP.below h.bel)).mono ?_
  rintro _ wn ⟨rfl, hb⟩
  replace h := h.below hb
  clear hb
  obtain ⟨g2, hgq, hq⟩ := h.more 1 24 (ec 0)
  replace hq : Fr w _ [(g1, 24, ec D), (g2, 24, ec 0)] := hq
  go_upto_region 3 with (first | refine wpList_alloc_row rfl 24 rfl _ z4w ?_ | (refine wpList_store_R rfl 24 _ _ rfl _ (ec nm) (congrArg (fun g => Value.pointer (some ⟨g, 0, none⟩)) hgq) rfl (hq.row (i := 1) rfl) (ie4 _) rfl (ec_all _) ?_; intro wz q hg hz))
  replace h : Fr w wz [(g1, 24, ec D), (g2, 24, ec nm)] := hq.put (i := 1) rfl q hg
  try rw [hgq]
  clear q hg hz hq hgq
  try simp only [Act.put]
  replace h := h.drew
  refine wp_region_noPanic ?_
  refine wp_region_held_drew (S := fun w' => Row w' g1 24 (ec D) ∧ Row w' g2 24 (ec nm)) (by kernel_rfl) ⟨h.row (i := 0) rfl, h.row (i := 1) rfl⟩ (fun hHeld => ?_)
  refine allReadyH_oneL (i := 0) (by kernel_rfl) rfl (by rfl) (fun K hK => ?_)
  go_simp
  refine (alive13_true _ (hE.below h.bel) (hB.below h.bel)).mono ?_
  rintro _ wn ⟨rfl, hb⟩
  replace h := h.below hb
  clear hb
  refine hK.out _ _ ⟨h.row (i := 0) rfl, h.row (i := 1) rfl⟩ (fun hHeld => ?_)
  clear hK K
  refine wpAnyH_takeL (i := 1) (v := ?vt1) rfl (by kernel_rfl) (by kernel_rfl) (by kernel_rfl) (fun _ _ _ h => h) (by rfl) ?ht1 (by assumption) ?_
  case ht1 => intro w hSw; go_simp <;> with_reducible rfl
  simp only [Act.put, List.setIfInBounds_toArray, List.set_cons_zero, List.set_cons_succ]
  refine wpAnyH_takeL (i := 2) (v := (.agg (ec D).toArray)) rfl (by kernel_rfl) (by kernel_rfl) (by kernel_rfl) (fun _ _ _ h => h) (by rfl) ?ht2 (by assumption) ?_
  case ht2 => intro w hSw; exact exec_load_W 24 _ rfl rfl hSw.1 Tryd.underlying24 rfl (ie4 _)
  simp only [Act.put, List.setIfInBounds_toArray, List.set_cons_zero, List.set_cons_succ]
  refine wpAnyH_takeL (i := 3) (v := (.agg (ec 121666).toArray)) rfl (by kernel_rfl) (by kernel_rfl) (by kernel_rfl) (fun _ _ _ h => h) (by rfl) ?ht3 (by assumption) ?_
  case ht3 => intro w hSw; exact exec_build_C 24 _ rfl (ec 121666) (by kernel_rfl)
  simp only [Act.put, List.setIfInBounds_toArray, List.set_cons_zero, List.set_cons_succ]
  refine wpAnyH_takeL (i := 5) (v := (.agg (ec nm).toArray)) rfl (by kernel_rfl) (by kernel_rfl) (by kernel_rfl) (fun _ _ _ h => h) (by rfl) ?ht4 (by assumption) ?_
  case ht4 => intro w hSw; exact exec_load_W 24 _ rfl rfl hSw.2 Tryd.underlying24 rfl (ie4 _)
  simp only [Act.put, List.setIfInBounds_toArray, List.set_cons_zero, List.set_cons_succ]
  refine allReadyH_oneL (i := 4) (by kernel_rfl) rfl (by rfl) (fun K hK => ?_)
  go_simp
  refine (cM _ (hP.below h.bel)).mono ?_
  rintro _ wn ⟨rfl, hb⟩
  replace h := h.below hb
  clear hb
  refine hK.out _ _ ⟨h.row (i := 0) rfl, h.row (i := 1) rfl⟩ (fun hHeld => ?_)
  clear hK K
  refine wpAnyH_takeL (i := 6) (v := ?vt5) rfl (by kernel_rfl) (by kernel_rfl) (by kernel_rfl) (fun _ _ _ h => h) (by rfl) ?ht5 (by assumption) ?_
  case ht5 => intro w hSw; go_simp <;> with_reducible rfl
  simp only [Act.put, List.setIfInBounds_toArray, List.set_cons_zero, List.set_cons_succ]
  refine wpAnyH_takeL (i := 7) (v := ?vt6) rfl (by kernel_rfl) (by kernel_rfl) (by kernel_rfl) (fun _ _ _ h => h) (by rfl) ?ht6 (by assumption) ?_
  case ht6 => intro w hSw; go_simp <;> with_reducible rfl
  simp only [Act.put, List.setIfInBounds_toArray, List.set_cons_zero, List.set_cons_succ]
  refine wpAnyH_takeL (i := 8) (v := ?vt7) rfl (by kernel_rfl) (by kernel_rfl) (by kernel_rfl) (fun _ _ _ h => h) (by rfl) ?ht7 (by assumption) ?_
  case ht7 => intro w hSw; go_simp <;> with_reducible rfl
  simp only [Act.put, List.setIfInBounds_toArray, List.set_cons_zero, List.set_cons_succ]
  refine wpAnyH_takeL (i := 11) (v := (.agg (ec 5).toArray)) rfl (by kernel_rfl) (by kernel_rfl) (by kernel_rfl) (fun _ _ _ h => h) (by rfl) ?ht8 (by assumption) ?_
  case ht8 => intro w hSw; exact exec_build_C 24 _ rfl (ec 5) (by kernel_rfl)
  simp only [Act.put, List.setIfInBounds_toArray, List.set_cons_zero, List.set_cons_succ]
  refine wpAnyH_takeL (i := 13) (v := (.agg (ec 4).toArray)) rfl (by kernel_rfl) (by kernel_rfl) (by kernel_rfl) (fun _ _ _ h => h) (by rfl) ?ht9 (by assumption) ?_
  case ht9 => intro w hSw; exact exec_build_C 24 _ rfl (ec 4) (by kernel_rfl)
  simp only [Act.put, List.setIfInBounds_toArray, List.set_cons_zero, List.set_cons_succ]
  refine allReadyH_oneL (i := 9) (by kernel_rfl) rfl (by rfl) (fun K hK => ?_)
  go_simp
  refine (cB _ (hB.below h.bel)).mono ?_
  rintro _ wn ⟨rfl, hb⟩
  replace h := h.below hb
  clear hb
  refine hK.out _ _ ⟨h.row (i := 0) rfl, h.row (i := 1) rfl⟩ (fun hHeld => ?_)
  clear hK K
  refine wpAnyH_takeL (i := 10) (v := (.agg (ec Y1).toArray)) rfl (by kernel_rfl) (by kernel_rfl) (by kernel_rfl) (fun _ _ _ h => h) (by rfl) ?ht10 (by assumption) ?_
  case ht10 => intro w hSw; exact exec_field_y _ rfl rfl
  simp only [Act.put, List.setIfInBounds_toArray, List.set_cons_zero, List.set_cons_succ]
  refine allReadyH_oneL (i := 12) (by kernel_rfl) rfl (by rfl) (fun K hK => ?_)
  go_simp
  refine (cF _ (hP.below h.bel)).mono ?_
  rintro _ wn ⟨rfl, hb⟩
  replace h := h.below hb
  clear hb
  refine hK.out _ _ ⟨h.row (i := 0) rfl, h.row (i := 1) rfl⟩ (fun hHeld => ?_)
  clear hK K
  refine wpAnyH_takeL (i := 14) (v := ?vt11) rfl (by kernel_rfl) (by kernel_rfl) (by kernel_rfl) (fun _ _ _ h => h) (by rfl) ?ht11 (by assumption) ?_
  case ht11 => intro w hSw; go_simp <;> with_reducible rfl
  simp only [Act.put, List.setIfInBounds_toArray, List.set_cons_zero, List.set_cons_succ]
  refine wpAnyH_takeL (i := 15) (v := ?vt12) rfl (by kernel_rfl) (by kernel_rfl) (by kernel_rfl) (fun _ _ _ h => h) (by rfl) ?ht12 (by assumption) ?_
  case ht12 => intro w hSw; go_simp <;> with_reducible rfl
  simp only [Act.put, List.setIfInBounds_toArray, List.set_cons_zero, List.set_cons_succ]
  refine wpAnyH_takeL (i := 16) (v := ?vt13) rfl (by kernel_rfl) (by kernel_rfl) (by kernel_rfl) (fun _ _ _ h => h) (by rfl) ?ht13 (by assumption) ?_
  case ht13 => intro w hSw; go_simp <;> with_reducible rfl
  simp only [Act.put, List.setIfInBounds_toArray, List.set_cons_zero, List.set_cons_succ]
  refine allReadyH_oneL (i := 17) (by kernel_rfl) rfl (by rfl) (fun K hK => ?_)
  go_simp
  refine (cB _ (hB.below h.bel)).mono ?_
  rintro _ wn ⟨rfl, hb⟩
  replace h := h.below hb
  clear hb
  refine hK.out _ _ ⟨h.row (i := 0) rfl, h.row (i := 1) rfl⟩ (fun hHeld => ?_)
  clear hK K
  refine wpAnyH_takeL (i := 18) (v := (.agg (ec X1).toArray)) rfl (by kernel_rfl) (by kernel_rfl) (by kernel_rfl) (fun _ _ _ h => h) (by rfl) ?ht14 (by assumption) ?_
  case ht14 => intro w hSw; exact exec_field_x _ rfl rfl
  simp only [Act.put, List.setIfInBounds_toArray, List.set_cons_zero, List.set_cons_succ]
  refine wpAnyH_takeL (i := 19) (v := (.int .u64 (xw : Int))) rfl (by kernel_rfl) (by kernel_rfl) (by kernel_rfl) (fun _ _ _ h => h) (by rfl) ?ht15 (by assumption) ?_
  case ht15 => intro w hSw; exact hix ▸ exec_index_0 _ rfl rfl rfl
  simp only [Act.put, List.setIfInBounds_toArray, List.set_cons_zero, List.set_cons_succ]
  refine wpAnyH_takeL (i := 20) (v := ?vt16) rfl (by kernel_rfl) (by kernel_rfl) (by kernel_rfl) (fun _ _ _ h => h) (by rfl) ?ht16 (by assumption) ?_
  case ht16 => intro w hSw; go_simp <;> with_reducible rfl
  simp only [Act.put, List.setIfInBounds_toArray, List.set_cons_zero, List.set_cons_succ]
  refine wpAnyH_takeL (i := 21) (v := ?vt17) rfl (by kernel_rfl) (by kernel_rfl) (by kernel_rfl) (fun _ _ _ h => h) (by rfl) ?ht17 (by assumption) ?_
  case ht17 => intro w hSw; go_simp <;> with_reducible rfl
  simp only [Act.put, List.setIfInBounds_toArray, List.set_cons_zero, List.set_cons_succ]
  refine wpAnyH_takeL (i := 22) (v := ?vt18) rfl (by kernel_rfl) (by kernel_rfl) (by kernel_rfl) (fun _ _ _ h => h) (by rfl) ?ht18 (by assumption) ?_
  case ht18 => intro w hSw; go_simp <;> with_reducible rfl
  simp only [Act.put, List.setIfInBounds_toArray, List.set_cons_zero, List.set_cons_succ]
  refine wpAnyH_takeL (i := 23) (v := ?vt19) rfl (by kernel_rfl) (by kernel_rfl) (by kernel_rfl) (fun _ _ _ h => h) (by rfl) ?ht19 (by assumption) ?_
  case ht19 => intro w hSw; go_simp <;> with_reducible rfl
  simp only [Act.put, List.setIfInBounds_toArray, List.set_cons_zero]
  refine wpAnyH_done (by kernel_rfl) ?_ _
  refine NoPanic.normal ?_
  go_wp2
  go_ret
  exact ⟨rfl, h.bel⟩
theorem walk (w : World) (hE : TE w) (hB : TB w) : Calls Tryd.prog 10 #[] w fun e w' => e = .returned (.bool true) ∧ Below w.heap.size w w' :=
  gen Dn ((0 % P + (P - 121665 % P)) % P) Bx By (Bx % 18446744073709551616) rfl Bx_even d13_any (fun w hT => by rw [← v00, ← v121665]; exact fsub_el 0 121665 (by decide) (by decide) w hT)
    (fun w hT => by
      have h := fmul_el Dn 121666 lDn (by decide) w hT
      rw [num_eq] at h
      exact h)
    (fun w hT => by
      have h := fmul_el By 5 By_lt (by decide) w hT
      rw [By5] at h
      exact h) base_el (fun w => by rw [eq4 w _ _ (mod_lt_T _) (mod_lt_T _), decide_eq_true rfl]) (fun w => by rw [eq4 w _ _ (by decide) (by decide), decide_eq_true rfl]) w hE hB

set_option maxRecDepth 100000 in
theorem lifted (os : Os) (started : os.Started) (H : Type) (enc : TypeId × Value → H) :
    ReturnsInHanded {} Tryd.checked os 10 .any (fun w args => (Rows.edwardsNumberSpec.pre enc Tryd.prog Tryd.f10 [] false w args ∧ laidMetH Tryd.prog L3.laid1 w) ∧ sizedMet enc Tryd.prog Tryd.f10 (OpenSpec.ofChange Rows.edwardsNumberSpec) false w args) (Rows.edwardsNumberSpec.post enc Tryd.prog Tryd.f10 false true false false) := by
  refine returnsInHanded_of_change_and (C := Tryd.checked) (X := fun w _ => laidMetH Tryd.prog L3.laid1 w) (fun _ _ _ hh h => h.of_heap hh) own started (by kernel_rfl) Tryd.func10
    (ChangeSpec.witness_shaped (enc := enc) (C := Tryd.checked) (os := os) (X := fun w _ => laidMetH Tryd.prog L3.laid1 w) false (World.doorLaid Tryd.prog 400 os) #[] 8 rfl (World.shaped_of_RefB (by kernel_rfl) (by kernel_rfl)) (by kernel_rfl) (by kernel_rfl) (by kernel_rfl) (L3.door_met os _)) ?_
  intro W base args ds gs before hval0 hW _ _ hLd _
  have hval : ∀ (j : Nat) t v, Tryd.f10.params[j]? = some t → args[j]? = some v → Value.okWide Tryd.prog W .any base t v := hval0
  have hW' := hW
  obtain ⟨p, q, hA0, hV, rfl, hfz, hnd⟩ := hW
  have hA : DataW.TrodAll enc Tryd.prog W 0 (fun _ => true) true Tryd.f10.params.toList args.toList ds p := hA0
  rw [Tryd.params10] at hA hval
  obtain ⟨hargs, rfl, rfl⟩ := trodAll_nil hA
  obtain rfl : args = #[] := by cases args; simp_all
  obtain ⟨rfl, rfl⟩ := trodVars_none hV
  clear hA0 hval0
  refine (walk  W (L3.of_laid hLd).1 (L3.of_laid hLd).2).mono fun e W' ⟨he, bel⟩ => ?_
  subst he
  exact ⟨_, rfl, _, _, _, [], _, [], hW', trodAll_mk1 (shut_bool Tryd.underlying4 _), trodAll_mk0, rfl, bel.frame _, fun h => by cases h⟩

theorem over : Rows.edwardsNumberRow.holds Tryd.pinned (OpenSpec.ofChange Rows.edwardsNumberSpec) :=
  OpenClaim.holds_of_wide 10 Tryd.f10 rfl rfl rfl rfl rfl rfl rfl ⟨rfl, rfl, rfl, rfl, rfl⟩ rfl rfl rfl rfl rfl (by kernel_rfl) Tryd.func10 (by kernel_rfl)
    (of_decide_eq_true (by kernel_rfl)) (by unfold Func.isWrapper; first | (rw [if_pos (by decide +kernel)]; kernel_rfl) | (rw [if_neg (by decide +kernel)]; exact ⟨rfl, rfl⟩))
    (fun os started H enc _ => lifted os started H enc)

end Go.Proofs.YthjlbcbkllaicaaDoor.edwardsNumber
namespace Go.Proofs.YthjlbcbkllaicaaDoor
/-- The given statement. -/
theorem edwardsNumber_proved : Rows.EdwardsNumberCardSaid :=
  Claim7.holds_tied_plain_at .later [] [.data, .data, .data] true (true, "6c81ab964824856677c0d2b71b16e379ba1f889a55ffe6000620aa7cdde3cb5a") false
    edwardsNumber.over (fun _ h => by cases h) (by kernel_rfl) (fun _ h => by cases h) edwardsNumber_row_tie rfl ⟨rfl, rfl⟩ (by kernel_rfl) rfl
    (fun f fn hf hfn => by
      obtain rfl : f = 10 := Option.some.inj ((show Tryd.prog.funcNamed "affiant/affiantlaw13.EdwardsNumber" = some 10 by kernel_rfl).symm.trans hf) |>.symm
      obtain rfl : fn = Tryd.f10 := (Option.some.inj (Tryd.func10.symm.trans hfn)).symm
      exact ⟨by kernel_rfl, fun j t ht => by
        rw [Tryd.params10] at ht
        have hm : t ∈ ([] : List TypeId) := by simpa using Array.mem_of_getElem? ht
        have hall : (([] : List TypeId).all fun u => !Tryd.prog.wantsStandIn u) = true := by kernel_rfl
        exact (show Tryd.prog.wantsStandIn t = false by simpa using List.all_eq_true.1 hall t hm)⟩)
    (by kernel_rfl)
end Go.Proofs.YthjlbcbkllaicaaDoor
