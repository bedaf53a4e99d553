/-
  Proved: for every string s the law RadixDecode returns true. No conditions.
-/
import Derived.Test.YtaamokcoccjjmaaRows
import Derived.Test.YtaamokcoccjjmaaRadK
import Derived.WalkKit
import Derived.ProofKit
import Derived.OpenShut
import Derived.ShutString
import Derived.Below
namespace Go.Proofs.Ytaamokcoccjjmaa.radixDecode
open Go.ChangeShapes Go.WideShapes Go.ChangeAt Go.RowKit
open Go.ChangeMaps (open_string shut_string)
set_option linter.unusedVariables false

theorem own : ownKnob Try.prog.godebug = none := by kernel_rfl

set_option maxHeartbeats 400000 in
/-- The walk: the law returns true and writes nothing that was there. -/
theorem walk (a0 : ByteArray) (w0 : a0.size ≤ maxLen) (w : World) :
    Calls Try.prog 4 #[.string a0] w fun e w' => e = .returned (.bool true) ∧ Below w.heap.size w w' := by
  have hmx : (a0.size : Int) ≤ 9223372036854775807 := by unfold maxLen at w0; omega
  by_cases hlong : 300 < a0.size
  · have hl' : (300 : Int) < (a0.size : Int) := by omega
    go_enter Try.func4, Try.ntmps4
    go_wp2_with (go_at_call 8; refine (alive_true _).mono ?_; rintro e w' ⟨rfl, hb⟩)
    go_ret
    exact ⟨rfl, hb⟩
  · have hl' : ¬ (300 : Int) < (a0.size : Int) := by omega
    have hsl : a0.data.toList.length = a0.size := Array.length_toList
    go_enter Try.func4, Try.ntmps4
    go_wp2_with fail
    refine (decode_any a0 _ rfl w (by omega)).mono ?_
    rintro e w1 (⟨v, xs, rfl, hx, he, ho, hb1⟩ | ⟨rfl, hno, hb1⟩)
    · have HE := hide he
      have HL := hide hsl
      clear he hsl
      go_wp2_with fail
      refine (refdecode_any a0 _ rfl w1 (by rw [unhide HL]; omega)).mono ?_
      rintro e w2 (⟨v2, ys, rfl, hy, he2, hs2, hb2⟩ | ⟨rfl, hno, hb2⟩)
      · obtain rfl : ys = xs := enc_inj hy hx (he2.trans (unhide HE).symm)
        have ho2 := own_below ho hb2
        have hb2 := hb1.trans (hb2.mono hb1.size)
        clear he2 ho hb1
        go_wp2_with fail
        refine (alive_true _).mono ?_
        rintro e w3 ⟨rfl, hb3⟩
        have c1 := str_run (SlV.ofOwn (own_below ho2 hb3))
        have c2 := str_run (hs2.below hb3)
        have hb3 := hb2.trans (hb3.mono hb2.size)
        go_wp2
        go_ret
        exact ⟨rfl, hb3⟩
      · exact absurd (unhide HE) (hno xs hx)
    · have HN := hide hno
      have HL := hide hsl
      clear hno hsl
      go_wp2_with fail
      refine (refdecode_any a0 _ rfl w1 (by rw [unhide HL]; omega)).mono ?_
      rintro e w2 (⟨v2, ys, rfl, hy, he2, hs2, hb2⟩ | ⟨rfl, hno, hb2⟩)
      · exact absurd he2 (unhide HN ys hy)
      · have hb2 := hb1.trans (hb2.mono hb1.size)
        clear hno hb1
        go_wp2_with fail
        refine (alive_true _).mono ?_
        rintro e w3 ⟨rfl, hb3⟩
        have c1 := str_run (xs := []) (SlV.nil w3)
        have hb3 := hb2.trans (hb3.mono hb2.size)
        go_wp2
        go_ret
        exact ⟨rfl, hb3⟩

set_option maxRecDepth 100000 in
theorem lifted (os : Os) (started : os.Started) (H : Type) (enc : TypeId × Value → H) :
    ReturnsInHanded {} Try.checked os 4 .any (Rows.radixDecodeSpec.pre6 enc Try.prog Try.f4 Rows.radixDecodeRow.domain false) (Rows.radixDecodeSpec.post enc Try.prog Try.f4 false true false false) := by
  refine returnsInHanded_of_change (C := Try.checked) own started (by kernel_rfl) Try.func4
    (ChangeSpec.witness6 (enc := enc) (C := Try.checked) false ⟨#[], #[.string ByteArray.empty], []⟩ 8 (by kernel_rfl) (by kernel_rfl) (by kernel_rfl) (by kernel_rfl)) ?_
  intro W base args ds gs before hval0 hW hcnd _
  have hval : ∀ (j : Nat) t v, Try.f4.params[j]? = some t → args[j]? = some v → Value.okWide Try.prog W .any base t v := hval0
  have hW' := hW
  obtain ⟨p, q, hA0, hV, rfl, hfz, hnd⟩ := hW
  have hA : DataW.TrodAll enc Try.prog W 0 (fun _ => true) true Try.f4.params.toList args.toList ds p := hA0
  rw [Try.params4] at hA hval
  obtain ⟨v0, vs0, d0, ds0, p0, q0, hargs, rfl, rfl, h0, r0⟩ := trodAll_cons hA
  obtain ⟨rfl, rfl, rfl⟩ := trodAll_nil r0
  obtain rfl : args = #[v0] := by cases args; simp_all
  obtain ⟨rfl, rfl⟩ := trodVars_none hV
  obtain ⟨a0, rfl, rfl, rfl, w0⟩ := open_string Try.underlying9 (hval 0 9 v0 rfl rfl) h0
  clear hA0 hval0
  simp only [List.append_nil] at hW'
  refine (walk a0 w0 W).mono fun e W' ⟨he, hg⟩ => ?_
  subst he
  exact ⟨_, rfl, _, _, _, [], _, [], hW', trodAll_mk1 (shut_bool Try.underlying4 _), (trodAll_cons_mk (shut_string Try.underlying9 w0) trodAll_mk0), rfl, hg.frame _, fun h => by cases h⟩

theorem over : Rows.radixDecodeRow.holds Try.pinned (OpenSpec.ofChange Rows.radixDecodeSpec) :=
  OpenClaim.holds_of_wide 4 Try.f4 rfl rfl rfl rfl rfl rfl rfl ⟨rfl, rfl, rfl, rfl, rfl⟩ rfl rfl rfl rfl rfl (by kernel_rfl) Try.func4 (by kernel_rfl)
    (of_decide_eq_true (by kernel_rfl)) (by unfold Func.isWrapper; first | (rw [if_pos (by decide +kernel)]; kernel_rfl) | (rw [if_neg (by decide +kernel)]; exact ⟨rfl, rfl⟩))
    (fun os started H enc _ => lifted os started H enc)

end Go.Proofs.Ytaamokcoccjjmaa.radixDecode
namespace Go.Proofs.Ytaamokcoccjjmaa
/-- The given statement. -/
theorem radixDecode_proved : Rows.RadixDecodeSaid := radixDecode.over
end Go.Proofs.Ytaamokcoccjjmaa
