/-
  Proved: for every array b of 32 bytes the law EdwardsUnpack returns true, and its arguments read as before. No conditions of ours; the packages' variables start as their initialisers lay them, as the given card ties it.
-/
import Derived.Test.YthjlbcbkllaicaaDoorRows
import Derived.Test.YthjlbcbkllaicaaDoorCards
import Derived.Test.YthjlbcbkllaicaaDoorTie
import Derived.SevenTiedAt
import Derived.Test.YthjlbcbkllaicaaDoorEpN
import Derived.WalkKit
import Derived.ProofKit
import Derived.OpenShut
import Derived.ShutString
import Derived.ChangeOld
import Derived.Below
namespace Go.Proofs.YthjlbcbkllaicaaDoor.edwardsUnpack
open Go.ChangeShapes Go.WideShapes Go.ChangeAt Go.RowKit
open F
set_option linter.unusedVariables false
set_option maxRecDepth 10000

theorem own : ownKnob Tryd.prog.godebug = none := by kernel_rfl
theorem laidOut : laidOutB Tryd.prog = true := by kernel_rfl

theorem wpList_wanted {P : Program} {ops : Array Oper} {rest : List Oper} {o : Oper} {a : Act} {w : World} {Q : Exit → Act → World → Prop} (hw : Region.wanted o (yielded ops a.tmps) = true)
    (h : ∀ K : Act → World → Prop, (∀ a w, wpList P ops Q rest a w → K a w) → o.wp P a w K Q) : wpList P ops Q (o :: rest) a w :=
  wpList_step fun K hK => by simp only [hw, if_true]; exact h K hK
/-- A guarded load of a whole struct or array. -/
theorem wpList_load_WG {P : Program} {ops : Array Oper} {rest : List Oper} {o : Oper} {a : Act} {w : World} {Q : Exit → Act → World → Prop} (hw : Region.wanted o (yielded ops a.tmps) = true) (ty : TypeId) (x : Operand) (ho : o.op = .load ty x)
    {g : Nat} (hx : a.eval x = .pointer (some ⟨g, 0, none⟩)) {e : TypeId} {us : List Value} (hg : Row w g e us) {d : TypeDesc} (hu : P.underlying ty = some d) (hd : (match d with | .struct _ | .array _ _ => true | _ => false) = true) (hi : (P.info? ty).map (·.size) = some us.length)
    (h : wpList P ops Q rest (a.put o.dst (.agg us.toArray)) w) : wpList P ops Q (o :: rest) a w :=
  wpList_wanted hw fun _ hK => by
    unfold Oper.wp
    rw [exec_load_W ty x ho hx hg hu hd hi]
    exact hK _ _ h
theorem unC_form (o : Bool) (N : Nat) : ∃ X Y, X < 115792089237316195423570985008687907853269984665640564039457584007913129639936 ∧ Y < 115792089237316195423570985008687907853269984665640564039457584007913129639936 ∧ unC o N = pc X Y := by
  by_cases h : unOk o N = true
  · obtain ⟨p, h1, h2, _⟩ := unOk_point h
    refine ⟨unX o N, N, by rw [← h2]; exact ptx_lt p, by rw [← h1]; exact pty_lt p, ?_⟩
    rw [unC, if_pos h]
  · exact ⟨0, 1, by decide, by decide, by rw [unC, if_neg h]⟩
set_option maxHeartbeats 8000000 in
theorem walk (b : List Nat) (hb : Lo 256 b) (hl : b.length = 32) (w : World) (hR : TR w) (hB : TB w) : Calls Tryd.prog 6 #[.agg (C .u8 b).toArray] w fun e w' => e = .returned (.bool true) ∧ Below w.heap.size w w' := by
  have hE := hR.i.e
  have h := Fr.one w 30 (C .u8 b)
  have c1 := unpack_any b hb hl
  have c2 := unpack13_any b hb hl
  obtain ⟨X, Y, lX, lY, hXY⟩ := unC_form (hiB b) (lowB b)
  rw [hXY] at c1 c2
  obtain ⟨k, hk⟩ : ∃ k, unOk (hiB b) (lowB b) = k := ⟨_, rfl⟩
  rw [hk] at c1 c2
  have s2 := fun w => eqP w X Y X Y lX lY lX lY
  rw [decide_eq_true (rfl : X = X), decide_eq_true (rfl : Y = Y), Bool.and_self] at s2
  have hib : (Tryd.prog.info? 30).map (·.size) = some (C .u8 b).length := by rw [C_length, hl]; exact i32
  clear hXY hk
  go_enter Tryd.func6, Tryd.ntmps6
  go_upto_region 1 with fail
  go_wp2_with (refine wpList_load_row rfl 30 _ rfl _ rfl _ _ _ _ (h.row (i := 0) rfl) Tryd.underlying30 rfl hib ?_)
  refine (c1 _ (hR.below h.bel)).mono ?_
  rintro _ wn ⟨rfl, hb⟩
  replace h := h.below hb
  clear hb
  obtain ⟨g3, hgq, hq⟩ := h.more 1 26 (pc 0 0)
  replace hq : Fr w _ [(w.heap.size, 30, C .u8 b), (g3, 26, pc 0 0)] := hq
  go_upto_region 2 with (first | refine wpList_alloc_row rfl 26 rfl _ zPw ?_ | (refine wpList_store_R rfl 26 _ _ rfl _ (pc X Y) (congrArg (fun g => Value.pointer (some ⟨g, 0, none⟩)) hgq) rfl (hq.row (i := 1) rfl) (iP _ _) rfl (pc_all _ _) ?_; intro wz q hg hz))
  replace h : Fr w wz [(w.heap.size, 30, C .u8 b), (g3, 26, pc X Y)] := hq.put (i := 1) rfl q hg
  try rw [hgq]
  clear q hg hz hq hgq
  go_wp2_with (refine wpList_load_row rfl 30 _ rfl _ rfl _ _ _ _ (h.row (i := 0) rfl) Tryd.underlying30 rfl hib ?_)
  refine (c2 _).mono ?_
  rintro _ wn ⟨rfl, hb⟩
  replace h := h.below hb
  clear hb
  obtain ⟨g5, hgq, hq⟩ := h.more 2 26 (pc 0 0)
  replace hq : Fr w _ [(w.heap.size, 30, C .u8 b), (g3, 26, pc X Y), (g5, 26, pc 0 0)] := hq
  go_upto_region 3 with (first | refine wpList_alloc_row rfl 26 rfl _ zPw ?_ | (refine wpList_store_R rfl 26 _ _ rfl _ (pc X Y) (congrArg (fun g => Value.pointer (some ⟨g, 0, none⟩)) hgq) rfl (hq.row (i := 2) rfl) (iP _ _) rfl (pc_all _ _) ?_; intro wz q hg hz))
  replace h : Fr w wz [(w.heap.size, 30, C .u8 b), (g3, 26, pc X Y), (g5, 26, pc X Y)] := hq.put (i := 2) rfl q hg
  try rw [hgq]
  clear q hg hz hq hgq
  go_wp2_with fail
  refine (alive13_true _ (hE.below h.bel) (hB.below h.bel)).mono ?_
  rintro _ wn ⟨rfl, hb⟩
  replace h := h.below hb
  clear hb
  go_wp2_with (first | refine wpList_load_WG rfl 26 _ rfl rfl (h.row (i := 1) rfl) Tryd.underlying26 rfl (iP _ _) ?_ | refine wpList_load_WG rfl 26 _ rfl rfl (h.row (i := 2) rfl) Tryd.underlying26 rfl (iP _ _) ?_)
  go_ret
  exact ⟨rfl, h.bel⟩

set_option maxRecDepth 100000 in
theorem lifted (os : Os) (started : os.Started) (H : Type) (enc : TypeId × Value → H) :
    ReturnsInHanded {} Tryd.checked os 6 .any (fun w args => (Rows.edwardsUnpackSpec.pre enc Tryd.prog Tryd.f6 [] false w args ∧ laidMetH Tryd.prog L6.laid1 w) ∧ sizedMet enc Tryd.prog Tryd.f6 (OpenSpec.ofChange Rows.edwardsUnpackSpec) false w args) (Rows.edwardsUnpackSpec.post enc Tryd.prog Tryd.f6 false true false false) := by
  refine returnsInHanded_of_change_and (C := Tryd.checked) (X := fun w _ => laidMetH Tryd.prog L6.laid1 w) (fun _ _ _ hh h => h.of_heap hh) own started (by kernel_rfl) Tryd.func6
    (ChangeSpec.witness_shaped (enc := enc) (C := Tryd.checked) (os := os) (X := fun w _ => laidMetH Tryd.prog L6.laid1 w) false (World.doorLaid Tryd.prog 400 os) #[.agg (C .u8 (Z 32)).toArray] 8 rfl (World.shaped_of_RefB (by kernel_rfl) (by kernel_rfl)) (by kernel_rfl) (by kernel_rfl) (by kernel_rfl) (L6.door_met os _)) ?_
  intro W base args ds gs before hval0 hW _ _ hLd _
  have hval : ∀ (j : Nat) t v, Tryd.f6.params[j]? = some t → args[j]? = some v → Value.okWide Tryd.prog W .any base t v := hval0
  have hW' := hW
  obtain ⟨p, q, hA0, hV, rfl, hfz, hnd⟩ := hW
  have hA : DataW.TrodAll enc Tryd.prog W 0 (fun _ => true) true Tryd.f6.params.toList args.toList ds p := hA0
  rw [Tryd.params6] at hA hval
  obtain ⟨v0, vs0, d0, ds0, p0, q0, hargs, rfl, rfl, h0, r0⟩ := trodAll_cons hA
  obtain ⟨rfl, rfl, rfl⟩ := trodAll_nil r0
  obtain rfl : args = #[v0] := by cases args; simp_all
  obtain ⟨rfl, rfl⟩ := trodVars_none hV
  have k0 := h0
  have lt0 : ∀ x ∈ p0, x.block < W.heap.size := by obtain ⟨m, hm⟩ := k0; exact DataW.trod_lt m _ _ _ hm
  obtain ⟨z0, rfl, hl0, hz0⟩ := open_array Tryd.underlying30 Tryd.underlying5 (by kernel_rfl) (by kernel_rfl) (hval 0 30 v0 rfl rfl) h0
  obtain ⟨n0, e0, l0, b0⟩ := arr_bytes hz0
  rw [e0] at hW' ⊢
  rw [e0] at k0
  clear hA0 hval0
  refine (walk n0 b0 (l0.trans hl0) W (L6.of_laid hLd).1 (L6.of_laid hLd).2).mono fun e W' ⟨he, bel⟩ => ?_
  subst he
  exact ⟨_, rfl, _, _, _, [], _, [], hW', trodAll_mk1 (shut_bool Tryd.underlying4 _), (trodAll_cons_mk (Below.trod laidOut (by kernel_rfl) (of_decide_eq_true (by kernel_rfl)) k0 bel lt0) trodAll_mk0), rfl, bel.frame _, fun h => by cases h⟩

theorem over : Rows.edwardsUnpackRow.holds Tryd.pinned (OpenSpec.ofChange Rows.edwardsUnpackSpec) :=
  OpenClaim.holds_of_wide 6 Tryd.f6 rfl rfl rfl rfl rfl rfl rfl ⟨rfl, rfl, rfl, rfl, rfl⟩ rfl rfl rfl rfl rfl (by kernel_rfl) Tryd.func6 (by kernel_rfl)
    (of_decide_eq_true (by kernel_rfl)) (by unfold Func.isWrapper; first | (rw [if_pos (by decide +kernel)]; kernel_rfl) | (rw [if_neg (by decide +kernel)]; exact ⟨rfl, rfl⟩))
    (fun os started H enc _ => lifted os started H enc)

end Go.Proofs.YthjlbcbkllaicaaDoor.edwardsUnpack
namespace Go.Proofs.YthjlbcbkllaicaaDoor
/-- The given statement. -/
theorem edwardsUnpack_proved : Rows.EdwardsUnpackCardSaid :=
  Claim7.holds_tied_plain_at .later [] [.data, .data, .data, .data, .data, .data] true (true, "6c81ab964824856677c0d2b71b16e379ba1f889a55ffe6000620aa7cdde3cb5a") false
    edwardsUnpack.over (fun _ h => by cases h) (by kernel_rfl) (fun _ h => by cases h) edwardsUnpack_row_tie rfl ⟨rfl, rfl⟩ (by kernel_rfl) rfl
    (fun f fn hf hfn => by
      obtain rfl : f = 6 := Option.some.inj ((show Tryd.prog.funcNamed "affiant/affiantlaw13.EdwardsUnpack" = some 6 by kernel_rfl).symm.trans hf) |>.symm
      obtain rfl : fn = Tryd.f6 := (Option.some.inj (Tryd.func6.symm.trans hfn)).symm
      exact ⟨by kernel_rfl, fun j t ht => by
        rw [Tryd.params6] at ht
        have hm : t ∈ ([30] : List TypeId) := by simpa using Array.mem_of_getElem? ht
        have hall : (([30] : List TypeId).all fun u => !Tryd.prog.wantsStandIn u) = true := by kernel_rfl
        exact (show Tryd.prog.wantsStandIn t = false by simpa using List.all_eq_true.1 hall t hm)⟩)
    (by kernel_rfl)
end Go.Proofs.YthjlbcbkllaicaaDoor
