/-
  Proved: for every byte c and every int n the law Sha1Long returns true, and its arguments read as before. No conditions.
-/
import Derived.Test.YtjkmpkhcpilcfaaRows
import Derived.Test.YtjkmpkhcpilcfaaLawS
import Derived.Test.YtjkmpkhcpilcfaaRefT
import Derived.WalkKit
import Derived.ProofKit
import Derived.OpenShut
import Derived.ShutString
import Derived.Below
namespace Go.Proofs.Ytjkmpkhcpilcfaa.sha1Long
open Go.ChangeShapes Go.WideShapes Go.ChangeAt Go.RowKit
open Go.ChangeMaps (open_string shut_string)
set_option linter.unusedVariables false

theorem own : ownKnob Try.prog.godebug = none := by kernel_rfl

theorem and2047 (n : Int) : bits .and .i64 n 2047 = n % 2048 := by
  have hm : (BitVec.ofInt 64 2047).toNat = 2 ^ 11 - 1 := by decide
  have e1 : (BitVec.ofInt 64 n &&& BitVec.ofInt 64 2047).toNat = (n % 18446744073709551616).toNat % 2048 := by
    rw [BitVec.toNat_and, hm, Nat.and_two_pow_sub_one_eq_mod, BitVec.toNat_ofInt]; rfl
  have e2 : bits .and .i64 n 2047 = IntKind.i64.wrap ((BitVec.ofInt 64 n &&& BitVec.ofInt 64 2047).toNat : Nat) := rfl
  rw [e2, e1, IntKind.wrap_i64]
  omega

set_option maxHeartbeats 400000 in
/-- The walk: the law returns true and writes nothing that was there. -/
theorem walk (a0 : Int) (a1 : Int) (w0 : (Lit.int .u8 a0).wf = true) (w1 : (Lit.int .i64 a1).wf = true) (w : World) :
    Calls Try.prog 6 #[.int .u8 a0, .int .i64 a1] w fun e w' => e = .returned (.bool true) ∧ Below w.heap.size w w' := by
  obtain ⟨c, rfl, hc⟩ : ∃ c : Nat, a0 = (c : Int) ∧ c < 256 := by
    have := byt_of_wf (xs := [a0]) (fun n hn => by simp at hn; subst hn; exact w0) a0 (by simp)
    exact ⟨a0.toNat, by omega, by omega⟩
  obtain ⟨m, hm, hm8⟩ : ∃ m : Nat, bits .and .i64 a1 2047 = (m : Int) ∧ m < 2048 := ⟨(a1 % 2048).toNat, by rw [and2047]; omega, by omega⟩
  obtain ⟨i0, hi, hz0, hz1, hz2⟩ := info_parts S1.inf8
  have hmi : (m : Int) < 2048 := by omega
  go_enter Try.func6, Try.ntmps6
  go_wp2_with (at_make; refine wpList_make_full _ rfl _ _ 22 rfl w.heap.size 5 i0 _ 1 Try.underlying22 hi hz0 hz1 _ _ _ _ m rfl rfl rfl rfl (by rw [hz2]; omega) (by unfold maxLen; omega) (Nat.le_refl _) ?_)
  intro w1 hown hgrow
  have hown := own_made hown
  have hb1 : Below w.heap.size w w1 := (Below.refl _ _).grown hgrow (Nat.le_refl _) (by simp)
  have hR := Row.ofOwn hown
  rw [← C_zeros] at hR
  have hR : Row w1 w.heap.size 5 (C .u8 (upto (List.replicate m c) m 0)) := by rw [upto_zero]; exact hR
  clear hown hgrow hm
  have hln : (List.replicate m c).length = m := by simp
  go_wp2
  go_loopw [6] (fun i wr => ∃ k : Nat, k ≤ m ∧ i = .int .i64 k ∧ Row wr w.heap.size 5 (C .u8 (upto (List.replicate m c) m k)) ∧ Below w.heap.size w wr) (fun i _ => m - (intOf i).toNat)
  case atStart => exact ⟨0, Nat.zero_le _, rfl, hR, hb1⟩
  case round =>
    clear hR hb1
    obtain ⟨k, hk, rfl, hR, hb⟩ := hrel
    by_cases hlt : k < m
    · have hct : ∃ u, wr.cell? ⟨w.heap.size, k, none⟩ = some u := by
        rw [hR.cell, C_get .u8 (by rw [upto_length hln (by omega)]; exact hlt)]; exact ⟨_, rfl⟩
      obtain ⟨u, hct⟩ := hct
      have hf := hR.frozen k
      have hki : (k : Int) < (m : Int) := by omega
      have HV : Away ((c : Int) = (((List.replicate m c).getD k 0 : Nat) : Int)) := ⟨by simp [List.getD, hlt]⟩
      go_wp2
      go_roundw
      case rel => exact ⟨k + 1, by omega, by go_num, upto_row hR hln hlt HV.out, hb.setCell (by simp) _⟩
      case measure => simp [intOf]; omega
    · have HK : Away (k = m) := ⟨by omega⟩
      rw [HK.out, upto_all hln] at hR
      have hki : ¬ (k : Int) < (m : Int) := by omega
      have hxl : Lo 256 (List.replicate m c) := by intro x hx; rw [List.eq_of_mem_replicate hx]; exact hc
      generalize List.replicate m c = xs at *
      have hsl : SlV wr (.slice (some ⟨w.heap.size, 0, none⟩) m m) (C .u8 xs) := by
        have := hR.slAll (by rw [C_length]; unfold maxLen; omega)
        rwa [C_length, hln] at this
      go_wp2_with fail
      refine (S1.alive6_true _).mono ?_
      rintro e w2 ⟨rfl, hb2⟩
      have hs2 := hsl.below hb2
      have hb2 := hb.trans (hb2.mono hb.size)
      clear hsl hb hR
      have hsum := S1.sum1_length xs
      have he := fun w => S1.eq20 w (S1.sum1 xs) (S1.sum1 xs) hsum hsum
      simp only [decide_true] at he
      go_wp2_with fail
      refine (S1.sum_any _ xs w2 hs2 hxl).mono ?_
      rintro e w3 ⟨rfl, hb3⟩
      have hs3 := hs2.below hb3
      have hb3 := hb2.trans (hb3.mono hb2.size)
      clear hs2 hb2
      go_wp2_with fail
      refine (S1.refsum_any _ xs w3 hs3 hxl (by omega)).mono ?_
      rintro e w4 ⟨rfl, hb4⟩
      have hb4 := hb3.trans (hb4.mono hb3.size)
      clear hs3 hb3
      generalize S1.sum1 xs = sm at *
      go_wp2
      go_ret
      exact ⟨rfl, hb4⟩

set_option maxRecDepth 100000 in
theorem lifted (os : Os) (started : os.Started) (H : Type) (enc : TypeId × Value → H) :
    ReturnsInHanded {} Try.checked os 6 .any (Rows.sha1LongSpec.pre6 enc Try.prog Try.f6 Rows.sha1LongRow.domain false) (Rows.sha1LongSpec.post enc Try.prog Try.f6 false true false false) := by
  refine returnsInHanded_of_change (C := Try.checked) own started (by kernel_rfl) Try.func6
    (ChangeSpec.witness6 (enc := enc) (C := Try.checked) false ⟨#[], #[.int .u8 0, .int .i64 0], []⟩ 8 (by kernel_rfl) (by kernel_rfl) (by kernel_rfl) (by kernel_rfl)) ?_
  intro W base args ds gs before hval0 hW hcnd _
  have hval : ∀ (j : Nat) t v, Try.f6.params[j]? = some t → args[j]? = some v → Value.okWide Try.prog W .any base t v := hval0
  have hW' := hW
  obtain ⟨p, q, hA0, hV, rfl, hfz, hnd⟩ := hW
  have hA : DataW.TrodAll enc Try.prog W 0 (fun _ => true) true Try.f6.params.toList args.toList ds p := hA0
  rw [Try.params6] at hA hval
  obtain ⟨v0, vs0, d0, ds0, p0, q0, hargs, rfl, rfl, h0, r0⟩ := trodAll_cons hA
  obtain ⟨v1, vs1, d1, ds1, p1, q1, rfl, rfl, rfl, h1, r1⟩ := trodAll_cons r0
  obtain ⟨rfl, rfl, rfl⟩ := trodAll_nil r1
  obtain rfl : args = #[v0, v1] := by cases args; simp_all
  obtain ⟨rfl, rfl⟩ := trodVars_none hV
  obtain ⟨a0, rfl, rfl, rfl, w0⟩ := open_int Try.underlying5 (hval 0 5 v0 rfl rfl) h0
  obtain ⟨a1, rfl, rfl, rfl, w1⟩ := open_int Try.underlying3 (hval 1 3 v1 rfl rfl) h1
  clear hA0 hval0
  simp only [List.append_nil] at hW'
  refine (walk a0 a1 w0 w1 W).mono fun e W' ⟨he, hg⟩ => ?_
  subst he
  exact ⟨_, rfl, _, _, _, [], _, [], hW', trodAll_mk1 (shut_bool Try.underlying4 _), (trodAll_cons_mk (shut_int Try.underlying5 w0) (trodAll_cons_mk (shut_int Try.underlying3 w1) trodAll_mk0)), rfl, hg.frame _, fun h => by cases h⟩

theorem over : Rows.sha1LongRow.holds Try.pinned (OpenSpec.ofChange Rows.sha1LongSpec) :=
  OpenClaim.holds_of_wide 6 Try.f6 rfl rfl rfl rfl rfl rfl rfl ⟨rfl, rfl, rfl, rfl, rfl⟩ rfl rfl rfl rfl rfl (by kernel_rfl) Try.func6 (by kernel_rfl)
    (of_decide_eq_true (by kernel_rfl)) (by unfold Func.isWrapper; first | (rw [if_pos (by decide +kernel)]; kernel_rfl) | (rw [if_neg (by decide +kernel)]; exact ⟨rfl, rfl⟩))
    (fun os started H enc _ => lifted os started H enc)

end Go.Proofs.Ytjkmpkhcpilcfaa.sha1Long
namespace Go.Proofs.Ytjkmpkhcpilcfaa
/-- The given statement. -/
theorem sha1Long_proved : Rows.Sha1LongSaid := sha1Long.over
end Go.Proofs.Ytjkmpkhcpilcfaa
