/-
  Proved: for every two lists of words a and b the law NatUndone returns true, and both read as before. No conditions.
-/
import Derived.Test.YtmbmabgdhdbmeaaRows
import Derived.Test.YtmbmabgdhdbmeaaLawK
import Derived.WalkKit
import Derived.ProofKit
import Derived.OpenShut
import Derived.ShutString
import Derived.ChangeOld
import Derived.Below
namespace Go.Proofs.Ytmbmabgdhdbmeaa.natUndone
open Go.ChangeShapes Go.WideShapes Go.ChangeAt Go.RowKit
open Go.ChangeMaps (open_string shut_string)
set_option linter.unusedVariables false

theorem own : ownKnob Try.prog.godebug = none := by kernel_rfl
theorem laidOut : laidOutB Try.prog = true := by kernel_rfl

set_option maxHeartbeats 4000000 in
/-- The walk: the law returns true and writes nothing that was there. -/
theorem walk (a0 : Option Addr) (len0 cap0 : Nat) (z0 : List Int) (a1 : Option Addr) (len1 cap1 : Nat) (z1 : List Int) (w : World) (w0 : IsRow .u32 w a0 len0 cap0 z0) (w1 : IsRow .u32 w a1 len1 cap1 z1) :
    Calls Try.prog 8 #[.slice a0 len0 cap0, .slice a1 len1 cap1] w fun e w' => e = .returned (.bool true) ∧ Below w.heap.size w w' := by
  obtain ⟨xs0, hs0, hl0, hn0⟩ := open32 w0
  obtain ⟨xs1, hs1, hl1, hn1⟩ := open32 w1
  have hm0 : len0 ≤ maxLen := by have := hs0.len; rwa [C_length, hn0] at this
  have hm1 : len1 ≤ maxLen := by have := hs1.len; rwa [C_length, hn1] at this
  have hi0 : (len0 : Int) ≤ 9223372036854775807 := by unfold maxLen at hm0; omega
  have hi1 : (len1 : Int) ≤ 9223372036854775807 := by unfold maxLen at hm1; omega
  clear w0 w1
  by_cases h0 : 80 < (len0 : Int)
  · go_enter Try.func8, Try.ntmps8
    go_wp2_with (go_at_call 11; refine (alive_true _).mono ?_; rintro e w' ⟨rfl, hb⟩)
    go_ret
    exact ⟨rfl, hb⟩
  by_cases h1 : 80 < (len1 : Int)
  · go_enter Try.func8, Try.ntmps8
    go_wp2_with (go_at_call 11; refine (alive_true _).mono ?_; rintro e w' ⟨rfl, hb⟩)
    go_ret
    exact ⟨rfl, hb⟩
  obtain ⟨A, hA⟩ : ∃ A, val W32 xs0 = A := ⟨_, rfl⟩
  obtain ⟨B, hB⟩ : ∃ B, val W32 xs1 = B := ⟨_, rfl⟩
  have HNA : Away (Num w (.slice a0 len0 cap0) A 80) := ⟨⟨xs0, hs0, hl0, hA, by omega⟩⟩
  have HNB : Away (Num w (.slice a1 len1 cap1) B 80) := ⟨⟨xs1, hs1, hl1, hB, by omega⟩⟩
  have HB : Away (Below w.heap.size w w) := ⟨Below.refl _ _⟩
  have LA := Away.mk HNA.out.lt; have LB := Away.mk HNB.out.lt
  have e1 : Away (errLt (A + B) B = 0) := ⟨errLt_neg (by omega)⟩
  have e2 : Away (A + B - B = A) := ⟨by omega⟩
  clear hs0 hs1 hl0 hl1 hn0 hn1 hA hB hm0 hm1
  go_enter Try.func8, Try.ntmps8
  go_wp2_with fail
  refine (add_n _ HNA.out HNB.out (by decide) (by decide)).mono ?_
  rintro _ x1 ⟨s, rfl, hs, hb⟩
  replace HNA := Away.mk (HNA.out.below hb)
  replace HNB := Away.mk (HNB.out.below hb)
  replace HB := Away.mk (HB.out.trans (hb.mono HB.out.size))
  clear hb
  have HS := Away.mk (hs)
  clear hs
  have HSN := Away.mk (HS.out.num (K := 81) (pow_sum (by decide) LA.out LB.out (Nat.le_refl 80) (Nat.le_refl 80)))
  go_wp2_with fail
  refine (sub_n _ HSN.out HNB.out (by decide) (by decide)).mono ?_
  rw [e1.out, e2.out]
  rintro _ x2 ⟨d, rfl, hd, hb⟩
  replace HNA := Away.mk (HNA.out.below hb)
  replace HNB := Away.mk (HNB.out.below hb)
  replace HS := Away.mk (HS.out.below hb)
  replace HSN := Away.mk (HSN.out.below hb)
  replace HB := Away.mk (HB.out.trans (hb.mono HB.out.size))
  clear hb
  have HDN := Away.mk (hd.num (K := 80) LA.out)
  clear hd
  clear HS
  clear HSN
  go_wp2_with fail
  refine (cmp_n _ HDN.out HNA.out (by decide) (by decide)).mono ?_
  rw [cmpI_eq]
  rintro _ x3 ⟨rfl, hb⟩
  replace HNA := Away.mk (HNA.out.below hb)
  replace HNB := Away.mk (HNB.out.below hb)
  replace HDN := Away.mk (HDN.out.below hb)
  replace HB := Away.mk (HB.out.trans (hb.mono HB.out.size))
  clear hb
  clear HDN
  by_cases hB0 : B = 0
  · subst hB0
    go_wp2_with fail
    refine (div_n0 _ HNA.out HNB.out (by decide) (by decide)).mono ?_
    rintro _ x1 ⟨rfl, hb⟩
    replace HNA := Away.mk (HNA.out.below hb)
    replace HNB := Away.mk (HNB.out.below hb)
    replace HB := Away.mk (HB.out.trans (hb.mono HB.out.size))
    clear hb
    go_wp2_with fail
    refine (bits_n _ HNB.out (by decide)).mono ?_
    rw [bl_zero]
    rintro _ x2 ⟨rfl, hb⟩
    replace HNA := Away.mk (HNA.out.below hb)
    replace HNB := Away.mk (HNB.out.below hb)
    replace HB := Away.mk (HB.out.trans (hb.mono HB.out.size))
    clear hb
    go_wp2_with fail
    refine (alive_true _).mono ?_
    rintro _ x3 ⟨rfl, hb⟩
    replace HNA := Away.mk (HNA.out.below hb)
    replace HNB := Away.mk (HNB.out.below hb)
    replace HB := Away.mk (HB.out.trans (hb.mono HB.out.size))
    clear hb
    go_wp2
    go_ret
    exact ⟨rfl, HB.out⟩
  · skip
    have hB1 : 0 < B := by omega
    have LQ : Away (A / B < W32 ^ 80) := ⟨Nat.lt_of_le_of_lt (Nat.div_le_self _ _) LA.out⟩
    have LR : Away (A % B < W32 ^ 80) := ⟨Nat.lt_of_le_of_lt (Nat.mod_le _ _) LA.out⟩
    have hbl0 : bl B ≠ 0 := Nat.ne_of_gt (bl_pos hB0)
    have hbl1 := HNB.out.bl
    have dB : ((bl B : Int) == 0) = false := by simp; omega
    have E1 : Away (A / B * B + A % B = A) := ⟨by rw [Nat.mul_comm]; exact Nat.div_add_mod A B⟩
    have E2 : Away (A * B / B = A) := ⟨Nat.mul_div_cancel _ hB1⟩
    have E3 : Away (A * B % B = 0) := ⟨Nat.mul_mod_left _ _⟩
    have hlt : cmpI (A % B) B = -1 := cmpI_lt (Nat.mod_lt _ hB1)
    have HLT := Away.mk hlt
    clear hlt hbl0
    go_wp2_with fail
    refine (div_n _ HNA.out HNB.out (by decide) (by decide) hB0).mono ?_
    rintro _ x1 ⟨q, r, rfl, hq, hr, hb⟩
    replace HNA := Away.mk (HNA.out.below hb)
    replace HNB := Away.mk (HNB.out.below hb)
    replace HB := Away.mk (HB.out.trans (hb.mono HB.out.size))
    clear hb
    have HQ := Away.mk (hq.num (K := 80) LQ.out)
    have HR := Away.mk (hr.num (K := 80) LR.out)
    clear hq hr
    go_wp2_with fail
    refine (bits_n _ HNB.out (by decide)).mono ?_
    rintro _ x2 ⟨rfl, hb⟩
    replace HNA := Away.mk (HNA.out.below hb)
    replace HNB := Away.mk (HNB.out.below hb)
    replace HQ := Away.mk (HQ.out.below hb)
    replace HR := Away.mk (HR.out.below hb)
    replace HB := Away.mk (HB.out.trans (hb.mono HB.out.size))
    clear hb
    go_wp2_with fail
    refine (mul_n _ HQ.out HNB.out (by decide) (by decide)).mono ?_
    rintro _ x3 ⟨m, rfl, hm, hb⟩
    replace HNA := Away.mk (HNA.out.below hb)
    replace HNB := Away.mk (HNB.out.below hb)
    replace HQ := Away.mk (HQ.out.below hb)
    replace HR := Away.mk (HR.out.below hb)
    replace HB := Away.mk (HB.out.trans (hb.mono HB.out.size))
    clear hb
    have HM := Away.mk (hm.num (K := 160) (mul_fits (B := W32) (m := 80) (n := 80) LQ.out LB.out))
    clear hm
    go_wp2_with fail
    refine (add_n _ HM.out HR.out (by decide) (by decide)).mono ?_
    rw [E1.out]
    rintro _ x4 ⟨t, rfl, ht, hb⟩
    replace HNA := Away.mk (HNA.out.below hb)
    replace HNB := Away.mk (HNB.out.below hb)
    replace HQ := Away.mk (HQ.out.below hb)
    replace HR := Away.mk (HR.out.below hb)
    replace HM := Away.mk (HM.out.below hb)
    replace HB := Away.mk (HB.out.trans (hb.mono HB.out.size))
    clear hb
    have HT := Away.mk (ht.num (K := 80) LA.out)
    clear ht
    clear HM
    clear HQ
    go_wp2_with fail
    refine (mul_n _ HNA.out HNB.out (by decide) (by decide)).mono ?_
    rintro _ x5 ⟨p, rfl, hp, hb⟩
    replace HNA := Away.mk (HNA.out.below hb)
    replace HNB := Away.mk (HNB.out.below hb)
    replace HR := Away.mk (HR.out.below hb)
    replace HT := Away.mk (HT.out.below hb)
    replace HB := Away.mk (HB.out.trans (hb.mono HB.out.size))
    clear hb
    have HP := Away.mk (hp.num (K := 160) (mul_fits (B := W32) (m := 80) (n := 80) LA.out LB.out))
    clear hp
    go_wp2_with fail
    refine (div_n _ HP.out HNB.out (by decide) (by decide) hB0).mono ?_
    rw [E2.out, E3.out]
    rintro _ x6 ⟨u, v, rfl, hu, hv, hb⟩
    replace HNA := Away.mk (HNA.out.below hb)
    replace HNB := Away.mk (HNB.out.below hb)
    replace HR := Away.mk (HR.out.below hb)
    replace HT := Away.mk (HT.out.below hb)
    replace HP := Away.mk (HP.out.below hb)
    replace HB := Away.mk (HB.out.trans (hb.mono HB.out.size))
    clear hb
    have HU := Away.mk (hu.num (K := 80) LA.out)
    obtain ⟨av, cv, rfl⟩ := hv.zero
    clear hu hv
    clear HP
    go_wp2_with fail
    refine (alive_true _).mono ?_
    rintro _ x7 ⟨rfl, hb⟩
    replace HNA := Away.mk (HNA.out.below hb)
    replace HNB := Away.mk (HNB.out.below hb)
    replace HR := Away.mk (HR.out.below hb)
    replace HT := Away.mk (HT.out.below hb)
    replace HU := Away.mk (HU.out.below hb)
    replace HB := Away.mk (HB.out.trans (hb.mono HB.out.size))
    clear hb
    go_wp2_with fail
    refine (cmp_n _ HT.out HNA.out (by decide) (by decide)).mono ?_
    rw [cmpI_eq]
    rintro _ x8 ⟨rfl, hb⟩
    replace HNA := Away.mk (HNA.out.below hb)
    replace HNB := Away.mk (HNB.out.below hb)
    replace HR := Away.mk (HR.out.below hb)
    replace HT := Away.mk (HT.out.below hb)
    replace HU := Away.mk (HU.out.below hb)
    replace HB := Away.mk (HB.out.trans (hb.mono HB.out.size))
    clear hb
    go_wp2_with fail
    refine (cmp_n _ HR.out HNB.out (by decide) (by decide)).mono ?_
    rw [HLT.out]
    rintro _ x9 ⟨rfl, hb⟩
    replace HNA := Away.mk (HNA.out.below hb)
    replace HNB := Away.mk (HNB.out.below hb)
    replace HR := Away.mk (HR.out.below hb)
    replace HT := Away.mk (HT.out.below hb)
    replace HU := Away.mk (HU.out.below hb)
    replace HB := Away.mk (HB.out.trans (hb.mono HB.out.size))
    clear hb
    go_wp2_with fail
    refine (cmp_n _ HU.out HNA.out (by decide) (by decide)).mono ?_
    rw [cmpI_eq]
    rintro _ x10 ⟨rfl, hb⟩
    replace HNA := Away.mk (HNA.out.below hb)
    replace HNB := Away.mk (HNB.out.below hb)
    replace HR := Away.mk (HR.out.below hb)
    replace HT := Away.mk (HT.out.below hb)
    replace HU := Away.mk (HU.out.below hb)
    replace HB := Away.mk (HB.out.trans (hb.mono HB.out.size))
    clear hb
    go_wp2
    go_ret
    exact ⟨rfl, HB.out⟩

set_option maxRecDepth 100000 in
theorem lifted (os : Os) (started : os.Started) (H : Type) (enc : TypeId × Value → H) :
    ReturnsInHanded {} Try.checked os 8 .any (Rows.natUndoneSpec.pre6 enc Try.prog Try.f8 Rows.natUndoneRow.domain false) (Rows.natUndoneSpec.post enc Try.prog Try.f8 false true false false) := by
  refine returnsInHanded_of_change (C := Try.checked) own started (by kernel_rfl) Try.func8
    (ChangeSpec.witness6 (enc := enc) (C := Try.checked) false ⟨#[], #[.slice none 0 0, .slice none 0 0], []⟩ 8 (by kernel_rfl) (by kernel_rfl) (by kernel_rfl) (by kernel_rfl)) ?_
  intro W base args ds gs before hval0 hW hcnd _
  have hval : ∀ (j : Nat) t v, Try.f8.params[j]? = some t → args[j]? = some v → Value.okWide Try.prog W .any base t v := hval0
  have hW' := hW
  obtain ⟨p, q, hA0, hV, rfl, hfz, hnd⟩ := hW
  have hA : DataW.TrodAll enc Try.prog W 0 (fun _ => true) true Try.f8.params.toList args.toList ds p := hA0
  rw [Try.params8] at hA hval
  obtain ⟨v0, vs0, d0, ds0, p0, q0, hargs, rfl, rfl, h0, r0⟩ := trodAll_cons hA
  obtain ⟨v1, vs1, d1, ds1, p1, q1, rfl, rfl, rfl, h1, r1⟩ := trodAll_cons r0
  obtain ⟨rfl, rfl, rfl⟩ := trodAll_nil r1
  obtain rfl : args = #[v0, v1] := by cases args; simp_all
  obtain ⟨rfl, rfl⟩ := trodVars_none hV
  obtain ⟨a0, len0, cap0, rfl⟩ := okWide_slice Try.underlying23 (hval 0 23 v0 rfl rfl)
  have k0 := h0
  have lt0 : ∀ x ∈ p0, x.block < W.heap.size := by obtain ⟨m, hm⟩ := k0; exact DataW.trod_lt m _ _ _ hm
  obtain ⟨z0, w0⟩ : ∃ zs, IsRow .u32 W a0 len0 cap0 zs := by
    obtain ⟨fuel, hf⟩ := h0
    rcases open_ints Try.underlying23 Try.underlying47 (by kernel_rfl) hf with ⟨hcs, _⟩ | ⟨x, l, c, zs, hcs, _, hl, hm, hz, _, hcell, hwz⟩
    · simp [Value.cells] at hcs
      obtain ⟨rfl, rfl, rfl⟩ := hcs
      exact ⟨[], .inl ⟨rfl, rfl, rfl, rfl⟩⟩
    · simp [Value.cells] at hcs
      obtain ⟨rfl, rfl, rfl⟩ := hcs
      exact ⟨zs, .inr ⟨_, rfl, hl, hm, by simpa using hz, hcell, hwz⟩⟩
  obtain ⟨a1, len1, cap1, rfl⟩ := okWide_slice Try.underlying23 (hval 1 23 v1 rfl rfl)
  have k1 := h1
  have lt1 : ∀ x ∈ p1, x.block < W.heap.size := by obtain ⟨m, hm⟩ := k1; exact DataW.trod_lt m _ _ _ hm
  obtain ⟨z1, w1⟩ : ∃ zs, IsRow .u32 W a1 len1 cap1 zs := by
    obtain ⟨fuel, hf⟩ := h1
    rcases open_ints Try.underlying23 Try.underlying47 (by kernel_rfl) hf with ⟨hcs, _⟩ | ⟨x, l, c, zs, hcs, _, hl, hm, hz, _, hcell, hwz⟩
    · simp [Value.cells] at hcs
      obtain ⟨rfl, rfl, rfl⟩ := hcs
      exact ⟨[], .inl ⟨rfl, rfl, rfl, rfl⟩⟩
    · simp [Value.cells] at hcs
      obtain ⟨rfl, rfl, rfl⟩ := hcs
      exact ⟨zs, .inr ⟨_, rfl, hl, hm, by simpa using hz, hcell, hwz⟩⟩
  clear hA0 hval0
  refine (walk a0 len0 cap0 z0 a1 len1 cap1 z1 W w0 w1).mono fun e W' ⟨he, bel⟩ => ?_
  subst he
  exact ⟨_, rfl, _, _, _, [], _, [], hW', trodAll_mk1 (shut_bool Try.underlying4 _), (trodAll_cons_mk (Below.trod laidOut (by kernel_rfl) (of_decide_eq_true (by kernel_rfl)) k0 bel lt0) (trodAll_cons_mk (Below.trod laidOut (by kernel_rfl) (of_decide_eq_true (by kernel_rfl)) k1 bel lt1) trodAll_mk0)), rfl, bel.frame _, fun h => by cases h⟩

theorem over : Rows.natUndoneRow.holds Try.pinned (OpenSpec.ofChange Rows.natUndoneSpec) :=
  OpenClaim.holds_of_wide 8 Try.f8 rfl rfl rfl rfl rfl rfl rfl ⟨rfl, rfl, rfl, rfl, rfl⟩ rfl rfl rfl rfl rfl (by kernel_rfl) Try.func8 (by kernel_rfl)
    (of_decide_eq_true (by kernel_rfl)) (by unfold Func.isWrapper; first | (rw [if_pos (by decide +kernel)]; kernel_rfl) | (rw [if_neg (by decide +kernel)]; exact ⟨rfl, rfl⟩))
    (fun os started H enc _ => lifted os started H enc)

end Go.Proofs.Ytmbmabgdhdbmeaa.natUndone
namespace Go.Proofs.Ytmbmabgdhdbmeaa
/-- The given statement. -/
theorem natUndone_proved : Rows.NatUndoneSaid := natUndone.over
end Go.Proofs.Ytmbmabgdhdbmeaa
