/-
  The steps' numbers of both packages that their initialisers lay: what the row's condition gives the walks. No conditions.
-/
import Derived.Test.YtmbaenodibfedaaDoorHshA
import Derived.Test.YtmbaenodibfedaaDoorKit10
namespace Go.Proofs.YtmbaenodibfedaaDoor.S9
open Go.RowKit Go.ChangeShapes Go.WideShapes Go.ChangeAt
set_option linter.unusedVariables false
set_option maxRecDepth 10000

theorem laidMet_parts {P : Program} {W : World} {a b : String × DataW Unit} (h : laidMet P [a, b] W) : laidMet P [a] W ∧ laidMet P [b] W := by
  obtain ⟨ps, ⟨g0, t0, cs, f0, p0, q0, hg0, ht0, hv0, hd0, h1, h2⟩, hn, hall⟩ := h
  subst h2
  refine ⟨⟨MemPlace.row ⟨g0, 0, none⟩ cs.size ++ p0, ⟨g0, t0, cs, f0, p0, [], hg0, ht0, hv0, hd0, rfl, by simp⟩, (List.nodup_append.1 hn).1, fun b off hb => hall b off (List.mem_append_left _ hb)⟩, ⟨q0, h1, (List.nodup_append.1 hn).2.1, fun b off hb => hall b off (List.mem_append_right _ hb)⟩⟩

/-- The row's list of variables. -/
def laid1 : List (String × DataW Unit) := [("affiant/sha256.stepNumbers", Rows.laid_affiant_sha256_stepNumbers), ("affiant/sha512.stepNumbers", Rows.laid_affiant_sha512_stepNumbers)]
theorem gTab2 : Tryd.prog.globalNamed "affiant/sha256.stepNumbers" = some 0 := by kernel_rfl
theorem tTab2 : (Tryd.prog.globals[0]?).map (·.type) = some 108 := by kernel_rfl
theorem dTab2 : (Rows.laid_affiant_sha256_stepNumbers : DataW Unit) = .agg (S2.K2L.map fun (x : Nat) => DataW.lit (.int .u32 (x : Int))) := by kernel_rfl
theorem gTab3 : Tryd.prog.globalNamed "affiant/sha512.stepNumbers" = some 1 := by kernel_rfl
theorem tTab3 : (Tryd.prog.globals[1]?).map (·.type) = some 111 := by kernel_rfl
theorem dTab3 : (Rows.laid_affiant_sha512_stepNumbers : DataW Unit) = .agg (S3.K3L.map fun (x : Nat) => DataW.lit (.int .u64 (x : Int))) := by kernel_rfl
theorem of_laid {W : World} (h : laidMetH Tryd.prog laid1 W) : Tabs W := by
  rw [MakeChecks.laidMetH_plain _ _ _ (by kernel_rfl)] at h
  obtain ⟨h2, h3⟩ := laidMet_parts h
  exact ⟨laid_block gTab2 tTab2 Tryd.underlying108 Tryd.underlying58 (by kernel_rfl) (by kernel_rfl) S2.K2L_length dTab2 h2, laid_block gTab3 tTab3 Tryd.underlying111 Tryd.underlying37 (by kernel_rfl) (by kernel_rfl) S3.K3L_length dTab3 h3⟩
theorem door_met (os : Os) (args : Array Value) : laidMetH Tryd.prog laid1 ((World.doorLaid Tryd.prog 400 os).forCall (fun _ _ => 0) ⟨#[], args, []⟩).memory :=
  laidMetH_of_parts3 (fuel := 8) (laidMet_of_run' 8 (by kernel_rfl) (by kernel_rfl)) (by kernel_rfl) (by kernel_rfl)
/-- Bytes as a string. -/
theorem str9 {w : World} {v : Value} {xs : List Nat} (h : SlV w v (C .u8 xs)) : (convert 22 9 v).run Tryd.prog w = .ok (.string (strOfNums (xs.map Int.ofNat))) w :=
  run_string_C w 22 9 5 Tryd.underlying22 Tryd.underlying5 Tryd.underlying9 v xs h
end Go.Proofs.YtmbaenodibfedaaDoor.S9
