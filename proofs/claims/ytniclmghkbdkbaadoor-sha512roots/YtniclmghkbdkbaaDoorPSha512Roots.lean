/-
  Proved: the law Sha512Roots returns true. No conditions of ours; the package's variable starts as its initialiser lays it, as the given card ties it.
-/
import Derived.Test.YtniclmghkbdkbaaDoorRows
import Derived.Test.YtniclmghkbdkbaaDoorCards
import Derived.Test.YtniclmghkbdkbaaDoorTie
import Derived.SevenTiedAt
import Derived.Test.YtniclmghkbdkbaaDoorLaw3
import Derived.Test.YtniclmghkbdkbaaDoorRf3U
import Derived.WalkKit
import Derived.ProofKit
import Derived.OpenShut
import Derived.ShutString
import Derived.Below
namespace Go.Proofs.YtniclmghkbdkbaaDoor.sha512Roots
open Go.ChangeShapes Go.WideShapes Go.ChangeAt Go.RowKit
open Go.ChangeMaps (open_string shut_string)
set_option linter.unusedVariables false

theorem own : ownKnob Tryd.prog.godebug = none := by kernel_rfl

set_option maxHeartbeats 800000 in
/-- The walk: the law returns true and writes nothing that was there. -/
theorem walk (w : World) (hTab : S3.Tab w) :
    Calls Tryd.prog 7 #[] w fun e w' => e = .returned (.bool true) ∧ Below w.heap.size w w' := by
  have hL := Below.refl w.heap.size w
  go_enter Tryd.func7, Tryd.ntmps7
  go_wp2
  go_loopw [1] (fun iv wr => ∃ t : Nat, t ≤ 80 ∧ iv = .int .i64 t ∧ Below w.heap.size w wr) (fun iv _ => 80 - (intOf iv).toNat)
  case atStart => exact ⟨0, Nat.zero_le _, rfl, hL⟩
  case round =>
    clear hL
    obtain ⟨t, ht, rfl, hL⟩ := hrel
    by_cases hlt : t < 80
    · have hti : (t : Int) < 80 := by omega
      go_wp2_with fail
      refine (S3.step_in t hlt _ (hTab.below hL)).mono ?_
      rintro _ w1 ⟨rfl, rfl⟩
      go_wp2_with fail
      refine (S3.refstep_in t hlt _).mono ?_
      rintro _ w2 ⟨rfl, hb2⟩
      have hL2 := hL.trans (hb2.mono hL.size)
      clear hL hb2
      generalize S3.K3 t = x at *
      go_wp2
      go_roundw
      case rel => exact ⟨t + 1, by omega, by go_num, hL2⟩
      case measure => simp [intOf]; omega
    · have hti : ¬ (t : Int) < 80 := by omega
      go_wp2_with fail
      refine (S3.alive8_true _ (hTab.below hL)).mono ?_
      rintro _ w1 ⟨rfl, hb1⟩
      have hL1 := hL.trans (hb1.mono hL.size)
      clear hL hb1
      go_wp2_with fail
      refine (S3.right_true _).mono ?_
      rintro _ w2 ⟨rfl, hb2⟩
      have hL2 := hL1.trans (hb2.mono hL1.size)
      clear hL1 hb2
      go_wp2
      go_ret
      exact ⟨rfl, hL2⟩

set_option maxRecDepth 100000 in
theorem lifted (os : Os) (started : os.Started) (H : Type) (enc : TypeId × Value → H) :
    ReturnsInHanded {} Tryd.checked os 7 .any (fun w args => (Rows.sha512RootsSpec.pre enc Tryd.prog Tryd.f7 [] false w args ∧ laidMetH Tryd.prog S3.laid1 w) ∧ sizedMet enc Tryd.prog Tryd.f7 (OpenSpec.ofChange Rows.sha512RootsSpec) false w args) (Rows.sha512RootsSpec.post enc Tryd.prog Tryd.f7 false true false false) := by
  refine returnsInHanded_of_change_and (C := Tryd.checked) (X := fun w _ => laidMetH Tryd.prog S3.laid1 w) (fun _ _ _ hh h => h.of_heap hh) own started (by kernel_rfl) Tryd.func7
    (ChangeSpec.witness_shaped (enc := enc) (C := Tryd.checked) (os := os) (X := fun w _ => laidMetH Tryd.prog S3.laid1 w) false (World.doorLaid Tryd.prog 400 os) #[] 8 rfl (World.shaped_of_RefB (by kernel_rfl) (by kernel_rfl)) (by kernel_rfl) (by kernel_rfl) (by kernel_rfl) (S3.door_met os _)) ?_
  intro W base args ds gs before hval0 hW _ _ hLd _
  have hval : ∀ (j : Nat) t v, Tryd.f7.params[j]? = some t → args[j]? = some v → Value.okWide Tryd.prog W .any base t v := hval0
  have hW' := hW
  obtain ⟨p, q, hA0, hV, rfl, hfz, hnd⟩ := hW
  have hA : DataW.TrodAll enc Tryd.prog W 0 (fun _ => true) true Tryd.f7.params.toList args.toList ds p := hA0
  rw [Tryd.params7] at hA hval
  obtain ⟨rfl, rfl, rfl⟩ := trodAll_none hA
  obtain ⟨rfl, rfl⟩ := trodVars_none hV
  clear hA0 hval0
  simp only [List.append_nil] at hW'
  refine (walk  W (S3.of_laid hLd)).mono fun e W' ⟨he, hg⟩ => ?_
  subst he
  exact ⟨_, rfl, _, _, _, [], _, [], hW', trodAll_mk1 (shut_bool Tryd.underlying4 _), rfl, rfl, hg.frame _, fun h => by cases h⟩

theorem over : Rows.sha512RootsRow.holds Tryd.pinned (OpenSpec.ofChange Rows.sha512RootsSpec) :=
  OpenClaim.holds_of_wide 7 Tryd.f7 rfl rfl rfl rfl rfl rfl rfl ⟨rfl, rfl, rfl, rfl, rfl⟩ rfl rfl rfl rfl rfl (by kernel_rfl) Tryd.func7 (by kernel_rfl)
    (of_decide_eq_true (by kernel_rfl)) (by unfold Func.isWrapper; first | (rw [if_pos (by decide +kernel)]; kernel_rfl) | (rw [if_neg (by decide +kernel)]; exact ⟨rfl, rfl⟩))
    (fun os started H enc _ => lifted os started H enc)

end Go.Proofs.YtniclmghkbdkbaaDoor.sha512Roots
namespace Go.Proofs.YtniclmghkbdkbaaDoor
/-- The given statement. -/
theorem sha512Roots_proved : Rows.Sha512RootsCardSaid :=
  Claim7.holds_tied_plain_at .later [] [.data] true (true, "811edfb1be13716fa3f6f04c4fb46979b36beed6323c6561f9e0df8f7ac8aa31") false
    sha512Roots.over (fun _ h => by cases h) (by kernel_rfl) (fun _ h => by cases h) sha512Roots_row_tie rfl ⟨rfl, rfl⟩ (by kernel_rfl) rfl
    (fun f fn hf hfn => by
      obtain rfl : f = 7 := Option.some.inj ((show Tryd.prog.funcNamed "affiant/affiantlaw08.Sha512Roots" = some 7 by kernel_rfl).symm.trans hf) |>.symm
      obtain rfl : fn = Tryd.f7 := (Option.some.inj (Tryd.func7.symm.trans hfn)).symm
      exact ⟨by kernel_rfl, fun j t ht => by rw [Tryd.params7] at ht; simp at ht⟩)
    (by kernel_rfl)
end Go.Proofs.YtniclmghkbdkbaaDoor
