/-
  The live question's answer; the numbers that the packages' initialisers lay. Conditions: the programs' variables hold what each says.
-/
import Derived.Test.YthjlbcbkllaicaaDoorRows
import Derived.Test.YthjlbcbkllaicaaDoorEpL
namespace Go.Proofs.YthjlbcbkllaicaaDoor.F
open Go.RowKit Go.ChangeShapes Go.WideShapes Go.ChangeAt
set_option linter.unusedVariables false
set_option maxRecDepth 10000

open E (Pt)
abbrev v0 : Value := .agg #[.int .u64 0, .int .u64 0, .int .u64 0, .int .u64 0, .int .u64 0, .int .u64 0, .int .u64 0, .int .u64 0]
abbrev v01 : Value := .agg #[.int .u64 0, .int .u64 0, .int .u64 0, .int .u64 0, .int .u64 1, .int .u64 0, .int .u64 0, .int .u64 0]
set_option maxHeartbeats 1000000 in
theorem alive13_gen (X Y : Nat) (B : List Nat) (hl : B.length = 32) (h0 : B.getD 0 0 = 88) (h31 : B.getD 31 0 = 102)
    (c1 : ∀ (w : World), TB w → Calls Tryd.prog 20 #[] w fun e w' => e = .returned (.agg (pc X Y).toArray) ∧ Below w.heap.size w w')
    (c2 : ∀ (w : World), TE w → Calls Tryd.prog 16 #[.agg (pc X Y).toArray] w fun e w' => e = .returned (.agg (C .u8 B).toArray) ∧ Below w.heap.size w w')
    (c3 : ∀ (w : World), TE w → Calls Tryd.prog 12 #[.agg (pc X Y).toArray] w fun e w' => e = .returned (.bool true) ∧ Below w.heap.size w w')
    (c4 : ∀ (w : World), Calls Tryd.prog 18 #[] w fun e w' => e = .returned v01 ∧ Below w.heap.size w w')
    (c5 : ∀ (w : World), TE w → Calls Tryd.prog 12 #[v0] w fun e w' => e = .returned (.bool false) ∧ Below w.heap.size w w')
    (hq : ∀ w, (Op.equalIn 10000 26 v01 v01).run Tryd.prog w = .ok true w)
    (w : World) (hE : TE w) (hB : TB w) : Calls Tryd.prog 11 #[] w fun e w' => e = .returned (.bool true) ∧ Below w.heap.size w w' := by
  have h := Fr.start w
  have iB : (Tryd.prog.info? 30).map (·.size) = some (C .u8 B).length := by rw [C_length, hl]; exact i32
  have zB : (C .u8 (Z 32)).length = (C .u8 B).length := by rw [C_length, C_length, hl]; rfl
  go_enter Tryd.func11, Tryd.ntmps11
  go_wp2_with fail
  refine (c1 _ (hB.below h.bel)).mono ?_
  rintro _ wn ⟨rfl, hb⟩
  replace h := h.below hb
  clear hb
  go_wp2_with fail
  refine (c2 _ (hE.below h.bel)).mono ?_
  rintro _ wn ⟨rfl, hb⟩
  replace h := h.below hb
  clear hb
  obtain ⟨g3, hgq, hq3⟩ := h.more 0 30 (C .u8 (Z 32))
  replace hq3 : Fr w _ [(g3, 30, C .u8 (Z 32))] := hq3
  go_upto_region 2 with (first | refine wpList_alloc_row rfl 30 rfl _ z32 ?_ | (refine wpList_store_R rfl 30 _ _ rfl _ (C .u8 B) (congrArg (fun g => Value.pointer (some ⟨g, 0, none⟩)) hgq) rfl (hq3.row (i := 0) rfl) iB zB (C_allL _ _) ?_; intro wz q hg hz))
  replace h : Fr w wz [(g3, 30, C .u8 B)] := hq3.put (i := 0) rfl q hg
  try rw [hgq]
  clear q hg hz hq3 hgq
  go_wp2_with fail
  refine (c1 _ (hB.below h.bel)).mono ?_
  rintro _ wn ⟨rfl, hb⟩
  replace h := h.below hb
  clear hb
  go_wp2_with fail
  refine (c3 _ (hE.below h.bel)).mono ?_
  rintro _ wn ⟨rfl, hb⟩
  replace h := h.below hb
  clear hb
  have k0 := (h.row (i := 0) rfl).cell 0
  rw [C_get .u8 (by omega), h0] at k0
  have k31 := (h.row (i := 0) rfl).cell 31
  rw [C_get .u8 (by omega), h31] at k31
  go_wp2_with fail
  refine (c4 _).mono ?_
  rintro _ wn ⟨rfl, hb⟩
  replace h := h.below hb
  clear hb k0 k31
  go_wp2_with fail
  refine (c5 _ (hE.below h.bel)).mono ?_
  rintro _ wn ⟨rfl, hb⟩
  replace h := h.below hb
  clear hb
  go_wp2
  go_ret
  exact ⟨rfl, h.bel⟩
theorem v01_ok : Value.agg (pc 0 1).toArray = v01 := by kernel_rfl
theorem v0_ok : Value.agg (pc 0 0).toArray = v0 := by kernel_rfl
theorem Bx_lt : Bx < 115792089237316195423570985008687907853269984665640564039457584007913129639936 := by decide +kernel
theorem B0 : (pk Bpt).getD 0 0 = 88 := by decide +kernel
theorem B31 : (pk Bpt).getD 31 0 = 102 := by decide +kernel
theorem none_on : onB 0 0 = false := by decide +kernel
theorem base_pt (w : World) (hB : TB w) : Calls Tryd.prog 20 #[] w fun e w' => e = .returned (.agg (pv Bpt).toArray) ∧ Below w.heap.size w w' := by
  rw [pv_B]; exact base_el w hB
/-- Contracts by points. -/
theorem pack_pt (p : Pt) (w : World) (hE : TE w) : Calls Tryd.prog 16 #[.agg (pv p).toArray] w fun e w' => e = .returned (.agg (C .u8 (pk p)).toArray) ∧ Below w.heap.size w w' := by
  have h := pack_any p.x.val p.y.val (ptx_lt p) (pty_lt p) w hE
  rw [ownP_val] at h
  exact h
theorem on_pt (p : Pt) (w : World) (hE : TE w) : Calls Tryd.prog 12 #[.agg (pv p).toArray] w fun e w' => e = .returned (.bool true) ∧ Below w.heap.size w w' := by
  have h := on_any p.x.val p.y.val (ptx_lt p) (pty_lt p) w hE
  rw [onB_val] at h
  exact h
theorem add_pt (p q : Pt) (w : World) (hI : TI w) : Calls Tryd.prog 22 #[.agg (pv p).toArray, .agg (pv q).toArray] w fun e w' => e = .returned (.agg (pv (E.padd p q)).toArray) ∧ Below w.heap.size w w' := by
  have h := add_any p.x.val p.y.val q.x.val q.y.val (ptx_lt p) (pty_lt p) (ptx_lt q) (pty_lt q) w hI
  rw [ownP_val, ownP_val] at h
  exact h
theorem zero_pt (w : World) : Calls Tryd.prog 18 #[] w fun e w' => e = .returned (.agg (pv Pt.zero).toArray) ∧ Below w.heap.size w w' := zero_el w
theorem alive13_true (w : World) (hE : TE w) (hB : TB w) : Calls Tryd.prog 11 #[] w fun e w' => e = .returned (.bool true) ∧ Below w.heap.size w w' :=
  alive13_gen Bpt.x.val Bpt.y.val (pk Bpt) (pk_length _) B0 B31 base_pt (pack_pt Bpt) (on_pt Bpt) (fun w => by rw [← v01_ok]; exact zero_el w) (fun w hE => by
    have h := on_any 0 0 (by decide) (by decide) w hE
    rw [none_on, v0_ok] at h
    exact h) (fun w => by rw [← v01_ok, eqP w 0 1 0 1 (by decide) (by decide) (by decide) (by decide)]; rfl) w hE hB

theorem laidMet_cons {P : Program} {W : World} {a : String × DataW Unit} {l : List (String × DataW Unit)} (h : laidMet P (a :: l) W) : laidMet P [a] W ∧ laidMet P l W := by
  obtain ⟨ps, ⟨g0, t0, cs, f0, p0, q0, hg0, ht0, hv0, hd0, h1, h2⟩, hn, hall⟩ := h
  subst h2
  refine ⟨⟨MemPlace.row ⟨g0, 0, none⟩ cs.size ++ p0, ⟨g0, t0, cs, f0, p0, [], hg0, ht0, hv0, hd0, rfl, by simp⟩, (List.nodup_append.1 hn).1, fun b off hb => hall b off (List.mem_append_left _ hb)⟩, ⟨q0, h1, (List.nodup_append.1 hn).2.1, fun b off hb => hall b off (List.mem_append_right _ hb)⟩⟩
theorem gP : Tryd.prog.globalNamed "affiant/field.prime" = some 2 := by kernel_rfl
theorem tP : (Tryd.prog.globals[2]?).map (·.type) = some 24 := by kernel_rfl
theorem dP : (Rows.laid_affiant_field_prime : DataW Unit) = .agg ((wds P).map fun (x : Nat) => DataW.lit (.int .u64 (x : Int))) := by kernel_rfl
theorem gR : Tryd.prog.globalNamed "affiant/field.toRoot" = some 3 := by kernel_rfl
theorem tR : (Tryd.prog.globals[3]?).map (·.type) = some 24 := by kernel_rfl
theorem dR : (Rows.laid_affiant_field_toRoot : DataW Unit) = .agg ((wds Q8).map fun (x : Nat) => DataW.lit (.int .u64 (x : Int))) := by kernel_rfl
theorem gI : Tryd.prog.globalNamed "affiant/field.rootOfMinusOne" = some 4 := by kernel_rfl
theorem tI : (Tryd.prog.globals[4]?).map (·.type) = some 24 := by kernel_rfl
theorem dI : (Rows.laid_affiant_field_rootOfMinusOne : DataW Unit) = .agg ((wds im).map fun (x : Nat) => DataW.lit (.int .u64 (x : Int))) := by kernel_rfl
theorem gV : Tryd.prog.globalNamed "affiant/field.toInverse" = some 5 := by kernel_rfl
theorem tV : (Tryd.prog.globals[5]?).map (·.type) = some 24 := by kernel_rfl
theorem dV : (Rows.laid_affiant_field_toInverse : DataW Unit) = .agg ((wds (P - 2)).map fun (x : Nat) => DataW.lit (.int .u64 (x : Int))) := by kernel_rfl
theorem gD : Tryd.prog.globalNamed "affiant/edwards.d" = some 0 := by kernel_rfl
theorem tD : (Tryd.prog.globals[0]?).map (·.type) = some 24 := by kernel_rfl
theorem dD : (Rows.laid_affiant_edwards_d : DataW Unit) = .agg ((wds Dn).map fun (x : Nat) => DataW.lit (.int .u64 (x : Int))) := by kernel_rfl
theorem gB : Tryd.prog.globalNamed "affiant/edwards.base" = some 1 := by kernel_rfl
theorem tB : (Tryd.prog.globals[1]?).map (·.type) = some 26 := by kernel_rfl
theorem dB : (Rows.laid_affiant_edwards_base : DataW Unit) = .agg [.agg ((wds Bx).map fun (x : Nat) => DataW.lit (.int .u64 (x : Int))), .agg ((wds By).map fun (x : Nat) => DataW.lit (.int .u64 (x : Int)))] := by kernel_rfl
theorem glob_of {W : World} {name : String} {g n : Nat} {d : DataW Unit} (hg : Tryd.prog.globalNamed name = some g) (hT : (Tryd.prog.globals[g]?).map (·.type) = some 24) (hd : d = .agg ((wds n).map fun (x : Nat) => DataW.lit (.int .u64 (x : Int)))) (h : laidMet Tryd.prog [(name, d)] W) : Glob W g n :=
  laid_block hg hT Tryd.underlying24 Tryd.underlying22 (by kernel_rfl) (by kernel_rfl) (wds_length n) hd h
end Go.Proofs.YthjlbcbkllaicaaDoor.F
namespace Go.Proofs.YthjlbcbkllaicaaDoor.L3
open Go.RowKit Go.ChangeShapes Go.WideShapes Go.ChangeAt
set_option linter.unusedVariables false
set_option maxRecDepth 10000
def laid1 : List (String × DataW Unit) := [("affiant/field.prime", Rows.laid_affiant_field_prime), ("affiant/edwards.d", Rows.laid_affiant_edwards_d), ("affiant/edwards.base", Rows.laid_affiant_edwards_base)]
theorem of_laid {W : World} (h : laidMetH Tryd.prog laid1 W) : F.TE W ∧ F.TB W := by
  rw [MakeChecks.laidMetH_plain _ _ _ (by kernel_rfl)] at h
  obtain ⟨h1, h⟩ := F.laidMet_cons h
  obtain ⟨h2, h3⟩ := F.laidMet_cons h
  exact ⟨⟨F.glob_of F.gP F.tP F.dP h1, F.glob_of F.gD F.tD F.dD h2⟩, F.laid_point F.gB F.tB F.dB h3⟩
theorem door_met (os : Os) (args : Array Value) : laidMetH Tryd.prog laid1 ((World.doorLaid Tryd.prog 400 os).forCall (fun _ _ => 0) ⟨#[], args, []⟩).memory :=
  laidMetH_of_parts3 (fuel := 8) (laidMet_of_run' 8 (by kernel_rfl) (by kernel_rfl)) (by kernel_rfl) (by kernel_rfl)
end Go.Proofs.YthjlbcbkllaicaaDoor.L3
namespace Go.Proofs.YthjlbcbkllaicaaDoor.L4
open Go.RowKit Go.ChangeShapes Go.WideShapes Go.ChangeAt
set_option linter.unusedVariables false
set_option maxRecDepth 10000
def laid1 : List (String × DataW Unit) := [("affiant/field.prime", Rows.laid_affiant_field_prime), ("affiant/field.toInverse", Rows.laid_affiant_field_toInverse), ("affiant/edwards.d", Rows.laid_affiant_edwards_d), ("affiant/edwards.base", Rows.laid_affiant_edwards_base)]
theorem of_laid {W : World} (h : laidMetH Tryd.prog laid1 W) : F.TI W ∧ F.TB W := by
  rw [MakeChecks.laidMetH_plain _ _ _ (by kernel_rfl)] at h
  obtain ⟨h1, h⟩ := F.laidMet_cons h
  obtain ⟨h4, h⟩ := F.laidMet_cons h
  obtain ⟨h2, h3⟩ := F.laidMet_cons h
  exact ⟨⟨⟨F.glob_of F.gP F.tP F.dP h1, F.glob_of F.gD F.tD F.dD h2⟩, F.glob_of F.gV F.tV F.dV h4⟩, F.laid_point F.gB F.tB F.dB h3⟩
theorem door_met (os : Os) (args : Array Value) : laidMetH Tryd.prog laid1 ((World.doorLaid Tryd.prog 400 os).forCall (fun _ _ => 0) ⟨#[], args, []⟩).memory :=
  laidMetH_of_parts3 (fuel := 8) (laidMet_of_run' 8 (by kernel_rfl) (by kernel_rfl)) (by kernel_rfl) (by kernel_rfl)
end Go.Proofs.YthjlbcbkllaicaaDoor.L4
namespace Go.Proofs.YthjlbcbkllaicaaDoor.L6
open Go.RowKit Go.ChangeShapes Go.WideShapes Go.ChangeAt
set_option linter.unusedVariables false
set_option maxRecDepth 10000
def laid1 : List (String × DataW Unit) := [("affiant/field.prime", Rows.laid_affiant_field_prime), ("affiant/field.toInverse", Rows.laid_affiant_field_toInverse), ("affiant/field.toRoot", Rows.laid_affiant_field_toRoot), ("affiant/field.rootOfMinusOne", Rows.laid_affiant_field_rootOfMinusOne), ("affiant/edwards.d", Rows.laid_affiant_edwards_d), ("affiant/edwards.base", Rows.laid_affiant_edwards_base)]
theorem of_laid {W : World} (h : laidMetH Tryd.prog laid1 W) : F.TR W ∧ F.TB W := by
  rw [MakeChecks.laidMetH_plain _ _ _ (by kernel_rfl)] at h
  obtain ⟨h1, h⟩ := F.laidMet_cons h
  obtain ⟨h4, h⟩ := F.laidMet_cons h
  obtain ⟨h5, h⟩ := F.laidMet_cons h
  obtain ⟨h6, h⟩ := F.laidMet_cons h
  obtain ⟨h2, h3⟩ := F.laidMet_cons h
  exact ⟨⟨⟨⟨F.glob_of F.gP F.tP F.dP h1, F.glob_of F.gD F.tD F.dD h2⟩, F.glob_of F.gV F.tV F.dV h4⟩, ⟨F.glob_of F.gP F.tP F.dP h1, F.glob_of F.gR F.tR F.dR h5, F.glob_of F.gI F.tI F.dI h6⟩⟩, F.laid_point F.gB F.tB F.dB h3⟩
theorem door_met (os : Os) (args : Array Value) : laidMetH Tryd.prog laid1 ((World.doorLaid Tryd.prog 400 os).forCall (fun _ _ => 0) ⟨#[], args, []⟩).memory :=
  laidMetH_of_parts3 (fuel := 8) (laidMet_of_run' 8 (by kernel_rfl) (by kernel_rfl)) (by kernel_rfl) (by kernel_rfl)
end Go.Proofs.YthjlbcbkllaicaaDoor.L6
