/-
  The numbers that the package's initialisers lay: what the rows' conditions give the walks. No conditions.
-/
import Derived.Test.YtgakpgcjninbgaaDoorFldZ
import Derived.Test.YtgakpgcjninbgaaDoorKit10
namespace Go.Proofs.YtgakpgcjninbgaaDoor.F
open Go.RowKit Go.ChangeShapes Go.WideShapes Go.ChangeAt
set_option linter.unusedVariables false
set_option maxRecDepth 10000

theorem laidMet_cons {P : Program} {W : World} {a : String × DataW Unit} {l : List (String × DataW Unit)} (h : laidMet P (a :: l) W) : laidMet P [a] W ∧ laidMet P l W := by
  obtain ⟨ps, ⟨g0, t0, cs, f0, p0, q0, hg0, ht0, hv0, hd0, h1, h2⟩, hn, hall⟩ := h
  subst h2
  refine ⟨⟨MemPlace.row ⟨g0, 0, none⟩ cs.size ++ p0, ⟨g0, t0, cs, f0, p0, [], hg0, ht0, hv0, hd0, rfl, by simp⟩, (List.nodup_append.1 hn).1, fun b off hb => hall b off (List.mem_append_left _ hb)⟩, ⟨q0, h1, (List.nodup_append.1 hn).2.1, fun b off hb => hall b off (List.mem_append_right _ hb)⟩⟩

theorem gP : Tryd.prog.globalNamed "affiant/field.prime" = some 0 := by kernel_rfl
theorem tP : (Tryd.prog.globals[0]?).map (·.type) = some 24 := by kernel_rfl
theorem dP : (Rows.laid_affiant_field_prime : DataW Unit) = .agg ((wds P).map fun (x : Nat) => DataW.lit (.int .u64 (x : Int))) := by kernel_rfl
theorem gR : Tryd.prog.globalNamed "affiant/field.toRoot" = some 1 := by kernel_rfl
theorem tR : (Tryd.prog.globals[1]?).map (·.type) = some 24 := by kernel_rfl
theorem dR : (Rows.laid_affiant_field_toRoot : DataW Unit) = .agg ((wds Q8).map fun (x : Nat) => DataW.lit (.int .u64 (x : Int))) := by kernel_rfl
theorem gI : Tryd.prog.globalNamed "affiant/field.rootOfMinusOne" = some 2 := by kernel_rfl
theorem tI : (Tryd.prog.globals[2]?).map (·.type) = some 24 := by kernel_rfl
theorem dI : (Rows.laid_affiant_field_rootOfMinusOne : DataW Unit) = .agg ((wds im).map fun (x : Nat) => DataW.lit (.int .u64 (x : Int))) := by kernel_rfl
theorem gV : Tryd.prog.globalNamed "affiant/field.toInverse" = some 3 := by kernel_rfl
theorem tV : (Tryd.prog.globals[3]?).map (·.type) = some 24 := by kernel_rfl
theorem dV : (Rows.laid_affiant_field_toInverse : DataW Unit) = .agg ((wds (P - 2)).map fun (x : Nat) => DataW.lit (.int .u64 (x : Int))) := by kernel_rfl
theorem glob_of {W : World} {name : String} {g n : Nat} {d : DataW Unit} (hg : Tryd.prog.globalNamed name = some g) (hT : (Tryd.prog.globals[g]?).map (·.type) = some 24) (hd : d = .agg ((wds n).map fun (x : Nat) => DataW.lit (.int .u64 (x : Int)))) (h : laidMet Tryd.prog [(name, d)] W) : Glob W g n :=
  laid_block hg hT Tryd.underlying24 Tryd.underlying22 (by kernel_rfl) (by kernel_rfl) (wds_length n) hd h

/-- The rows' lists of variables. -/
def laid1 : List (String × DataW Unit) := [("affiant/field.prime", Rows.laid_affiant_field_prime), ("affiant/field.toRoot", Rows.laid_affiant_field_toRoot), ("affiant/field.rootOfMinusOne", Rows.laid_affiant_field_rootOfMinusOne)]
theorem of_laid {W : World} (h : laidMetH Tryd.prog laid1 W) : Tabs W := by
  rw [MakeChecks.laidMetH_plain _ _ _ (by kernel_rfl)] at h
  obtain ⟨h1, h⟩ := laidMet_cons h
  obtain ⟨h2, h3⟩ := laidMet_cons h
  exact ⟨glob_of gP tP dP h1, glob_of gR tR dR h2, glob_of gI tI dI h3⟩
theorem door_met (os : Os) (args : Array Value) : laidMetH Tryd.prog laid1 ((World.doorLaid Tryd.prog 400 os).forCall (fun _ _ => 0) ⟨#[], args, []⟩).memory :=
  laidMetH_of_parts3 (fuel := 8) (laidMet_of_run' 8 (by kernel_rfl) (by kernel_rfl)) (by kernel_rfl) (by kernel_rfl)
end Go.Proofs.YtgakpgcjninbgaaDoor.F
