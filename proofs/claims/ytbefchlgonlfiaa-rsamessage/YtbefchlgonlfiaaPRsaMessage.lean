/-
  Proved: for every algorithm's number, every byte slice and every length the law RsaMessage returns true, and the bytes read as before. No conditions.
-/
import Derived.Test.YtbefchlgonlfiaaRows
import Derived.Test.YtbefchlgonlfiaaRsJ
import Derived.WalkKit
import Derived.ProofKit
import Derived.OpenShut
import Derived.ShutString
import Derived.ChangeOld
import Derived.Below
namespace Go.Proofs.Ytbefchlgonlfiaa.rsaMessage
open Go.ChangeShapes Go.WideShapes Go.ChangeAt Go.RowKit
open Go.ChangeMaps (open_string shut_string)
set_option linter.unusedVariables false

theorem own : ownKnob Try.prog.godebug = none := by kernel_rfl
theorem laidOut : laidOutB Try.prog = true := by kernel_rfl

set_option maxRecDepth 10000 in
set_option maxHeartbeats 4000000 in
/-- The walk: the law returns true and writes nothing that was there. -/
theorem walk (a0 : Int) (a1 : Option Addr) (len1 cap1 : Nat) (z1 : List Int) (a2 : Int) (w : World) (w0 : (Lit.int .i64 a0).wf = true) (w1 : IsRow .u8 w a1 len1 cap1 z1) (w2 : (Lit.int .i64 a2).wf = true) :
    Calls Try.prog 3 #[.int .i64 a0, .slice a1 len1 cap1, .int .i64 a2] w fun e w' => e = .returned (.bool true) ∧ Below w.heap.size w w' := by
  obtain ⟨xs, hs, hlen, hbx⟩ := w1.bytes
  have hk := bounds_i64 w2
  clear w1 w0 w2
  have hml := hs.len
  rw [C_length, hlen] at hml
  have hmx : (len1 : Int) ≤ 9223372036854775807 := by unfold maxLen at hml; omega
  by_cases hlong : 300 < len1
  · have hl' : (300 : Int) < (len1 : Int) := by omega
    go_enter Try.func3, Try.ntmps3
    go_wp2_with fail
    refine (R10.alive10_true _).mono ?_
    rintro e w' ⟨rfl, hb⟩
    go_wp2
    go_ret
    exact ⟨rfl, hb⟩
  have hl' : ¬ (300 : Int) < (len1 : Int) := by omega
  have hA : Below w.heap.size w (w.alloc (.cells #[] 5)) := (Below.refl _ _).alloc (Nat.le_refl _) _
  have hsA := hs.below hA
  have hoA := own_empty w w.heap.size 5 (Nat.le_refl _)
  obtain ⟨pe, hpe⟩ : ∃ c, R10.perr a0 = c := ⟨_, rfl⟩
  obtain ⟨me, hme⟩ : ∃ c, R10.merr a0 xs.length a2 = c := ⟨_, rfl⟩
  have HPE := Away.mk hpe; have HME := Away.mk hme
  clear hpe hme
  have hxl : xs.length ≤ 1000000 := by omega
  go_enter Try.func3, Try.ntmps3
  go_wp2_with (at_builtin; refine wpList_append_sl rfl (.tmp 20) (.tmp 21) 22 rfl w.heap.size 5 _ 1 Try.underlying22 R10.Try.inf8 rfl _ 0 [] rfl hoA _ (C .u8 xs) rfl hsA (C_one _ _) (by rw [C_length]; unfold maxLen; omega) (by rw [C_length]; omega) (by simp) ?_)
  intro v1 w1 ho1 hg1
  have hb1 : Below w.heap.size w w1 := hA.grown hg1 hA.size (fun k hk => (hoA.lt k hk).1)
  have ho1 : w1.ownsRow w.heap.size 5 1 v1 len1 (C .u8 xs) := by simpa [C_length, hlen] using ho1
  have HO := Away.mk (SlV.ofOwn ho1)
  have HS := Away.mk (hs.below hb1)
  have HB := Away.mk hb1
  clear hg1 hoA hsA hA ho1 hb1 hs
  go_wp2_with fail
  refine (R10.prefix_any a0 _).mono ?_
  rw [HPE.out]
  rintro _ w2 ⟨p1, rfl, hp1, hb⟩
  have HP1 := Away.mk hp1
  replace HO := Away.mk (HO.out.below hb); replace HS := Away.mk (HS.out.below hb); replace HB := Away.mk (HB.out.trans (hb.mono HB.out.size))
  clear hb hp1
  go_wp2_with fail
  refine (R10.refprefix_any a0 _).mono ?_
  rw [HPE.out]
  rintro _ w3 ⟨p2, rfl, hp2, hb⟩
  have HP2 := Away.mk hp2
  replace HP1 := Away.mk (HP1.out.below hb); replace HO := Away.mk (HO.out.below hb); replace HS := Away.mk (HS.out.below hb); replace HB := Away.mk (HB.out.trans (hb.mono HB.out.size))
  clear hb hp2
  go_wp2_with fail
  refine (R10.message_any a0 v1 xs a2 _ hk HO.out hxl).mono ?_
  rw [HME.out]
  rintro _ w4 ⟨m1, rfl, hm1, hb⟩
  have HM1 := Away.mk hm1
  replace HP1 := Away.mk (HP1.out.below hb); replace HP2 := Away.mk (HP2.out.below hb); replace HO := Away.mk (HO.out.below hb); replace HS := Away.mk (HS.out.below hb); replace HB := Away.mk (HB.out.trans (hb.mono HB.out.size))
  clear hb hm1
  go_wp2_with fail
  refine (R10.refmessage_any a0 _ xs a2 _ hk HS.out hxl).mono ?_
  rw [HME.out]
  rintro _ w5 ⟨m2, rfl, hm2, hb⟩
  have HM2 := Away.mk hm2
  replace HM1 := Away.mk (HM1.out.below hb); replace HP1 := Away.mk (HP1.out.below hb); replace HP2 := Away.mk (HP2.out.below hb); replace HO := Away.mk (HO.out.below hb); replace HS := Away.mk (HS.out.below hb); replace HB := Away.mk (HB.out.trans (hb.mono HB.out.size))
  clear hb hm2
  go_wp2_with fail
  refine (R10.alive10_true _).mono ?_
  rintro _ w6 ⟨rfl, hb⟩
  have s1 := R10.strR (HO.out.below hb)
  have s2 := R10.strR (HS.out.below hb)
  have s3 := R10.strR (HP1.out.below hb)
  have s4 := R10.strR (HP2.out.below hb)
  have s5 := R10.strR (HM1.out.below hb)
  have s6 := R10.strR (HM2.out.below hb)
  replace HB := Away.mk (HB.out.trans (hb.mono HB.out.size))
  clear hb HO HS HP1 HP2 HM1 HM2
  generalize strOfNums (xs.map Int.ofNat) = sx at *
  generalize strOfNums ((R10.pfx a0).map Int.ofNat) = sp at *
  generalize strOfNums ((R10.mout a0 xs a2).map Int.ofNat) = sm at *
  go_wp2
  go_ret
  exact ⟨rfl, HB.out⟩

set_option maxRecDepth 100000 in
theorem lifted (os : Os) (started : os.Started) (H : Type) (enc : TypeId × Value → H) :
    ReturnsInHanded {} Try.checked os 3 .any (Rows.rsaMessageSpec.pre6 enc Try.prog Try.f3 Rows.rsaMessageRow.domain false) (Rows.rsaMessageSpec.post enc Try.prog Try.f3 false true false false) := by
  refine returnsInHanded_of_change (C := Try.checked) own started (by kernel_rfl) Try.func3
    (ChangeSpec.witness6 (enc := enc) (C := Try.checked) false ⟨#[], #[.int .i64 0, .slice none 0 0, .int .i64 0], []⟩ 8 (by kernel_rfl) (by kernel_rfl) (by kernel_rfl) (by kernel_rfl)) ?_
  intro W base args ds gs before hval0 hW hcnd _
  have hval : ∀ (j : Nat) t v, Try.f3.params[j]? = some t → args[j]? = some v → Value.okWide Try.prog W .any base t v := hval0
  have hW' := hW
  obtain ⟨p, q, hA0, hV, rfl, hfz, hnd⟩ := hW
  have hA : DataW.TrodAll enc Try.prog W 0 (fun _ => true) true Try.f3.params.toList args.toList ds p := hA0
  rw [Try.params3] at hA hval
  obtain ⟨v0, vs0, d0, ds0, p0, q0, hargs, rfl, rfl, h0, r0⟩ := trodAll_cons hA
  obtain ⟨v1, vs1, d1, ds1, p1, q1, rfl, rfl, rfl, h1, r1⟩ := trodAll_cons r0
  obtain ⟨v2, vs2, d2, ds2, p2, q2, rfl, rfl, rfl, h2, r2⟩ := trodAll_cons r1
  obtain ⟨rfl, rfl, rfl⟩ := trodAll_nil r2
  obtain rfl : args = #[v0, v1, v2] := by cases args; simp_all
  obtain ⟨rfl, rfl⟩ := trodVars_none hV
  obtain ⟨a0, rfl, rfl, rfl, w0⟩ := open_int Try.underlying3 (hval 0 3 v0 rfl rfl) h0
  obtain ⟨a1, len1, cap1, rfl⟩ := okWide_slice Try.underlying22 (hval 1 22 v1 rfl rfl)
  have k1 := h1
  have lt1 : ∀ x ∈ p1, x.block < W.heap.size := by obtain ⟨m, hm⟩ := k1; exact DataW.trod_lt m _ _ _ hm
  obtain ⟨z1, w1⟩ : ∃ zs, IsRow .u8 W a1 len1 cap1 zs := by
    obtain ⟨fuel, hf⟩ := h1
    rcases open_ints Try.underlying22 Try.underlying5 (by kernel_rfl) hf with ⟨hcs, _⟩ | ⟨x, l, c, zs, hcs, _, hl, hm, hz, _, hcell, hwz⟩
    · simp [Value.cells] at hcs
      obtain ⟨rfl, rfl, rfl⟩ := hcs
      exact ⟨[], .inl ⟨rfl, rfl, rfl, rfl⟩⟩
    · simp [Value.cells] at hcs
      obtain ⟨rfl, rfl, rfl⟩ := hcs
      exact ⟨zs, .inr ⟨_, rfl, hl, hm, by simpa using hz, hcell, hwz⟩⟩
  obtain ⟨a2, rfl, rfl, rfl, w2⟩ := open_int Try.underlying3 (hval 2 3 v2 rfl rfl) h2
  clear hA0 hval0
  refine (walk a0 a1 len1 cap1 z1 a2 W w0 w1 w2).mono fun e W' ⟨he, bel⟩ => ?_
  subst he
  exact ⟨_, rfl, _, _, _, [], _, [], hW', trodAll_mk1 (shut_bool Try.underlying4 _), (trodAll_cons_mk (shut_int Try.underlying3 w0) (trodAll_cons_mk (Below.trod laidOut (by kernel_rfl) (of_decide_eq_true (by kernel_rfl)) k1 bel lt1) (trodAll_cons_mk (shut_int Try.underlying3 w2) trodAll_mk0))), rfl, bel.frame _, fun h => by cases h⟩

theorem over : Rows.rsaMessageRow.holds Try.pinned (OpenSpec.ofChange Rows.rsaMessageSpec) :=
  OpenClaim.holds_of_wide 3 Try.f3 rfl rfl rfl rfl rfl rfl rfl ⟨rfl, rfl, rfl, rfl, rfl⟩ rfl rfl rfl rfl rfl (by kernel_rfl) Try.func3 (by kernel_rfl)
    (of_decide_eq_true (by kernel_rfl)) (by unfold Func.isWrapper; first | (rw [if_pos (by decide +kernel)]; kernel_rfl) | (rw [if_neg (by decide +kernel)]; exact ⟨rfl, rfl⟩))
    (fun os started H enc _ => lifted os started H enc)

end Go.Proofs.Ytbefchlgonlfiaa.rsaMessage
namespace Go.Proofs.Ytbefchlgonlfiaa
/-- The given statement. -/
theorem rsaMessage_proved : Rows.RsaMessageSaid := rsaMessage.over
end Go.Proofs.Ytbefchlgonlfiaa
