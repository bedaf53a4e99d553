/-
  The live question's answer; what the laws want; what the row's condition gives the walks. Conditions: the program's variable holds the order.
-/
import Derived.Test.YtdpahahfcdldcaaDoorSclX
namespace Go.Proofs.YtdpahahfcdldcaaDoor.F
open Go.RowKit Go.ChangeShapes Go.WideShapes Go.ChangeAt
set_option linter.unusedVariables false
set_option maxRecDepth 10000

/-- What the package's variable holds. -/
abbrev OT (w : World) : Prop := Glob w 0 Lq
theorem same4 (X : Nat) (hX : X < 115792089237316195423570985008687907853269984665640564039457584007913129639936) (w : World) : (Op.equalIn 10000 24 (.agg (C .u64 (wds X)).toArray) (.agg (C .u64 (wds X)).toArray)).run Tryd.prog w = .ok true w := by
  rw [eq4 w X X hX hX]
  simp
theorem eq32 (w : World) (xs ys : List Nat) (hx : xs.length = 32) (hy : ys.length = 32) : (Op.equalIn 10000 30 (.agg (C .u8 xs).toArray) (.agg (C .u8 ys).toArray)).run Tryd.prog w = .ok (decide (xs = ys)) w := by
  have hi : ∃ i, Tryd.prog.info? 5 = some i := by
    have := i1b
    cases hq : Tryd.prog.info? 5 with
    | none => rw [hq] at this; cases this
    | some i => exact ⟨i, rfl⟩
  exact run_equal_C w 9998 Tryd.underlying30 (by kernel_rfl) Tryd.underlying5 hi (by kernel_rfl) xs ys hx hy
theorem cell0 {w : World} {g A : Nat} {t : TypeId} (h : Row w g t (C .u64 (wds A))) (hA : A < 115792089237316195423570985008687907853269984665640564039457584007913129639936) : w.cell? ⟨g, 0, none⟩ = some (.int .u64 ((A % 18446744073709551616 : Nat) : Int)) := by
  rw [h.cell, C_get .u64 (by rw [wds_length]; decide), wds_getD hA, Nat.pow_zero, Nat.div_one]
/-- Four words that came in. -/
theorem elem_of {zs : List Int} (hl : zs.length = 4) (h : ∀ z ∈ zs, (Lit.int .u64 z).wf = true) : ∃ n, n < 115792089237316195423570985008687907853269984665640564039457584007913129639936 ∧ zs.map (Value.int .u64) = C .u64 (wds n) := by
  have hlo : Lo 18446744073709551616 (zs.map Int.toNat) := by
    intro x hx
    obtain ⟨z, hz, rfl⟩ := List.mem_map.1 hx
    have := u64_of_wf (h z hz); omega
  obtain ⟨h1, h2⟩ := of_wds (xs := zs.map Int.toNat) (by simpa using hl) hlo
  exact ⟨_, h1, by rw [C_ofInts (fun z hz => (u64_of_wf (h z hz)).1), ← h2]⟩

theorem ag (n : Nat) (h : n < 18446744073709551616) : Value.agg #[.int .u64 (n : Int), .int .u64 0, .int .u64 0, .int .u64 0] = .agg (C .u64 (wds n)).toArray := by rw [wds_small h]; rfl

theorem L1_lt : Lq - 1 < 115792089237316195423570985008687907853269984665640564039457584007913129639936 := by decide
set_option maxHeartbeats 1000000 in
theorem alive12_true (w : World) (hT : OT w) : Calls Tryd.prog 7 #[] w fun e w' => e = .returned (.bool true) ∧ Below w.heap.size w w' := by
  have had := sadd_any (Lq - 1) 2 L1_lt (by decide)
  rw [show (Lq - 1 + 2) % Lq = 1 by decide +kernel] at had
  have hmu := smul_any 3 5 (by decide) (by decide)
  rw [show 3 * 5 % Lq = 15 by decide +kernel] at hmu
  have hne := sneg_any (Lq - 1) L1_lt
  rw [show (Lq - (Lq - 1) % Lq) % Lq = 1 by decide +kernel] at hne
  have s1 := same4 1 (by decide)
  have s15 := same4 15 (by decide)
  have iM := ie4 (Lq - 1)
  have zM := ze4 (Lq - 1)
  have bM : Value.agg #[.int .u64 6346243789798364140, .int .u64 1503914060200516822, .int .u64 0, .int .u64 1152921504606846976] = .agg (C .u64 (wds (Lq - 1))).toArray := by kernel_rfl
  have m0 : (C .u64 (wds (Lq - 1)))[0]? = some (.int .u64 6346243789798364140) := by kernel_rfl
  have m1 : (C .u64 (wds (Lq - 1)))[1]? = some (.int .u64 1503914060200516822) := by kernel_rfl
  have m2 : (C .u64 (wds (Lq - 1)))[2]? = some (.int .u64 0) := by kernel_rfl
  have m3 : (C .u64 (wds (Lq - 1)))[3]? = some (.int .u64 1152921504606846976) := by kernel_rfl
  generalize Lq - 1 = M at *
  have r1 := Row.new w 24 (C .u64 (Z 4))
  have hL := (Below.more (Below.refl w.heap.size w) (Nat.le_refl _) (.cells (C .u64 (Z 4)).toArray 24)).1
  go_enter Tryd.func7, Tryd.ntmps7
  go_upto_region 2 with (first | refine wpList_alloc_row rfl 24 rfl _ z4 ?_ | (refine wpList_store_R rfl 24 _ _ rfl _ (C .u64 (wds M)) rfl rfl r1 iM zM (C_allL _ _) ?_; intro w5 q1 hg5 hz5))
  replace hL := below_grown hL hg5 (by omega) r1.lt
  clear r1 hg5 hz5
  have a1 : Value.agg #[.int .u64 1, .int .u64 0, .int .u64 0, .int .u64 0] = .agg (C .u64 (wds 1)).toArray := ag 1 (by decide)
  have a2 : Value.agg #[.int .u64 2, .int .u64 0, .int .u64 0, .int .u64 0] = .agg (C .u64 (wds 2)).toArray := ag 2 (by decide)
  have a3 : Value.agg #[.int .u64 3, .int .u64 0, .int .u64 0, .int .u64 0] = .agg (C .u64 (wds 3)).toArray := ag 3 (by decide)
  have a5 : Value.agg #[.int .u64 5, .int .u64 0, .int .u64 0, .int .u64 0] = .agg (C .u64 (wds 5)).toArray := ag 5 (by decide)
  have a15 : Value.agg #[.int .u64 15, .int .u64 0, .int .u64 0, .int .u64 0] = .agg (C .u64 (wds 15)).toArray := ag 15 (by decide)
  go_wp2_with (first | refine wpList_load_row rfl 24 _ rfl _ rfl _ _ _ _ q1 Tryd.underlying24 rfl iM ?_)
  refine (had _ (hT.below hL)).mono ?_
  rintro _ wn ⟨rfl, hb⟩
  replace q1 := q1.belowS hb
  replace hL := hL.trans (hb.mono hL.size)
  clear hb had
  go_wp2_with fail
  refine (hmu _ (hT.below hL)).mono ?_
  rintro _ wn2 ⟨rfl, hb⟩
  replace q1 := q1.belowS hb
  replace hL := hL.trans (hb.mono hL.size)
  clear hb hmu
  have k0 := (q1.cell 0).trans m0
  have k1 := (q1.cell 1).trans m1
  have k2 := (q1.cell 2).trans m2
  have k3 := (q1.cell 3).trans m3
  go_wp2_with fail
  refine (hne _ (hT.below hL)).mono ?_
  rintro _ wn3 ⟨rfl, hb⟩
  replace hL := hL.trans (hb.mono hL.size)
  clear hb hne
  go_wp2
  go_ret
  exact ⟨rfl, hL⟩

theorem gO : Tryd.prog.globalNamed "affiant/scalar.order" = some 0 := by kernel_rfl
theorem tO : (Tryd.prog.globals[0]?).map (·.type) = some 24 := by kernel_rfl
theorem dO : (Rows.laid_affiant_scalar_order : DataW Unit) = .agg ((wds Lq).map fun (x : Nat) => DataW.lit (.int .u64 (x : Int))) := by kernel_rfl
/-- The row's list of variables. -/
def laid1 : List (String × DataW Unit) := [("affiant/scalar.order", Rows.laid_affiant_scalar_order)]
theorem of_laid {W : World} (h : laidMetH Tryd.prog laid1 W) : OT W := by
  rw [MakeChecks.laidMetH_plain _ _ _ (by kernel_rfl)] at h
  exact laid_block gO tO Tryd.underlying24 Tryd.underlying22 (by kernel_rfl) (by kernel_rfl) (wds_length Lq) dO h
theorem door_met (os : Os) (args : Array Value) : laidMetH Tryd.prog laid1 ((World.doorLaid Tryd.prog 400 os).forCall (fun _ _ => 0) ⟨#[], args, []⟩).memory :=
  laidMetH_of_parts3 (fuel := 8) (laidMet_of_run' 8 (by kernel_rfl) (by kernel_rfl)) (by kernel_rfl) (by kernel_rfl)
end Go.Proofs.YtdpahahfcdldcaaDoor.F
