/-
  Proved: for every three lists of words a, b and c the law NatLaws returns true, and all read as before. No conditions.
-/
import Derived.Test.YtmbmabgdhdbmeaaRows
import Derived.Test.YtmbmabgdhdbmeaaLawK
import Derived.Deep.Cut
import Derived.Deep.CutRange
import Derived.WalkKit
import Derived.ProofKit
import Derived.OpenShut
import Derived.ShutString
import Derived.ChangeOld
import Derived.Below
namespace Go.Proofs.Ytmbmabgdhdbmeaa.natLaws
open Go.ChangeShapes Go.WideShapes Go.ChangeAt Go.RowKit
open Go.ChangeMaps (open_string shut_string)
set_option linter.unusedVariables false

theorem own : ownKnob Try.prog.godebug = none := by kernel_rfl
theorem laidOut : laidOutB Try.prog = true := by kernel_rfl

set_option maxHeartbeats 8000000 in
/-- The walk: the law returns true and writes nothing that was there. -/
theorem walk (a0 : Option Addr) (len0 cap0 : Nat) (z0 : List Int) (a1 : Option Addr) (len1 cap1 : Nat) (z1 : List Int) (a2 : Option Addr) (len2 cap2 : Nat) (z2 : List Int) (w : World) (w0 : IsRow .u32 w a0 len0 cap0 z0) (w1 : IsRow .u32 w a1 len1 cap1 z1) (w2 : IsRow .u32 w a2 len2 cap2 z2) :
    Calls Try.prog 9 #[.slice a0 len0 cap0, .slice a1 len1 cap1, .slice a2 len2 cap2] w fun e w' => e = .returned (.bool true) ∧ Below w.heap.size w w' := by
  obtain ⟨xs0, hs0, hl0, hn0⟩ := open32 w0
  have hm0 : len0 ≤ maxLen := by have := hs0.len; rwa [C_length, hn0] at this
  have hi0 : (len0 : Int) ≤ 9223372036854775807 := by unfold maxLen at hm0; omega
  obtain ⟨xs1, hs1, hl1, hn1⟩ := open32 w1
  have hm1 : len1 ≤ maxLen := by have := hs1.len; rwa [C_length, hn1] at this
  have hi1 : (len1 : Int) ≤ 9223372036854775807 := by unfold maxLen at hm1; omega
  obtain ⟨xs2, hs2, hl2, hn2⟩ := open32 w2
  have hm2 : len2 ≤ maxLen := by have := hs2.len; rwa [C_length, hn2] at this
  have hi2 : (len2 : Int) ≤ 9223372036854775807 := by unfold maxLen at hm2; omega
  clear w0 w1 w2
  by_cases h0 : 80 < (len0 : Int)
  · go_enter Try.func9, Try.ntmps9
    go_wp2_with (go_at_call 11; refine (alive_true _).mono ?_; rintro e w' ⟨rfl, hb⟩)
    go_ret
    exact ⟨rfl, hb⟩
  by_cases h1 : 80 < (len1 : Int)
  · go_enter Try.func9, Try.ntmps9
    go_wp2_with (go_at_call 11; refine (alive_true _).mono ?_; rintro e w' ⟨rfl, hb⟩)
    go_ret
    exact ⟨rfl, hb⟩
  by_cases h2 : 80 < (len2 : Int)
  · go_enter Try.func9, Try.ntmps9
    go_wp2_with (go_at_call 11; refine (alive_true _).mono ?_; rintro e w' ⟨rfl, hb⟩)
    go_ret
    exact ⟨rfl, hb⟩
  obtain ⟨A, hA⟩ : ∃ A, val W32 xs0 = A := ⟨_, rfl⟩
  obtain ⟨B, hB⟩ : ∃ B, val W32 xs1 = B := ⟨_, rfl⟩
  obtain ⟨D, hD⟩ : ∃ D, val W32 xs2 = D := ⟨_, rfl⟩
  have HNA : Away (Num w (.slice a0 len0 cap0) A 80) := ⟨⟨xs0, hs0, hl0, hA, by omega⟩⟩
  have HNB : Away (Num w (.slice a1 len1 cap1) B 80) := ⟨⟨xs1, hs1, hl1, hB, by omega⟩⟩
  have HND : Away (Num w (.slice a2 len2 cap2) D 80) := ⟨⟨xs2, hs2, hl2, hD, by omega⟩⟩
  have HC : Away (SlV w (.slice a2 len2 cap2) (C .u32 xs2)) := ⟨hs2⟩
  have HCL : Away (Lo W32 xs2 ∧ xs2.length = len2) := ⟨⟨hl2, hn2⟩⟩
  have HB : Away (Below w.heap.size w w) := ⟨Below.refl _ _⟩
  have LA := Away.mk HNA.out.lt; have LB := Away.mk HNB.out.lt; have LD := Away.mk HND.out.lt
  have e1 : Away (B + A = A + B) := ⟨Nat.add_comm _ _⟩
  have e2 : Away (B * A = A * B) := ⟨Nat.mul_comm _ _⟩
  have e3 : Away (A * (B + D) = A * B + A * D) := ⟨Nat.mul_add _ _ _⟩
  clear hs0 hs1 hs2 hl0 hl1 hl2 hn0 hn1 hn2 hA hB hD hm0 hm1 hm2
  go_enter Try.func9, Try.ntmps9
  go_wp2_with fail
  refine (add_n _ HNA.out HNB.out (by decide) (by decide)).mono ?_
  rintro _ x1 ⟨s, rfl, hs, hb⟩
  replace HNA := Away.mk (HNA.out.below hb)
  replace HNB := Away.mk (HNB.out.below hb)
  replace HND := Away.mk (HND.out.below hb)
  replace HC := Away.mk (HC.out.below hb)
  replace HB := Away.mk (HB.out.trans (hb.mono HB.out.size))
  clear hb
  have HS := Away.mk (hs.num (K := 81) (pow_sum (by decide) LA.out LB.out (Nat.le_refl 80) (Nat.le_refl 80)))
  clear hs
  go_wp2_with fail
  refine (add_n _ HNB.out HNA.out (by decide) (by decide)).mono ?_
  rw [e1.out]
  rintro _ x2 ⟨s', rfl, hs, hb⟩
  replace HNA := Away.mk (HNA.out.below hb)
  replace HNB := Away.mk (HNB.out.below hb)
  replace HND := Away.mk (HND.out.below hb)
  replace HC := Away.mk (HC.out.below hb)
  replace HS := Away.mk (HS.out.below hb)
  replace HB := Away.mk (HB.out.trans (hb.mono HB.out.size))
  clear hb
  have HS2 := Away.mk (hs.num (K := 81) (pow_sum (by decide) LA.out LB.out (Nat.le_refl 80) (Nat.le_refl 80)))
  clear hs
  go_wp2_with fail
  refine (cmp_n _ HS.out HS2.out (by decide) (by decide)).mono ?_
  rw [cmpI_eq]
  rintro _ x3 ⟨rfl, hb⟩
  replace HNA := Away.mk (HNA.out.below hb)
  replace HNB := Away.mk (HNB.out.below hb)
  replace HND := Away.mk (HND.out.below hb)
  replace HC := Away.mk (HC.out.below hb)
  replace HS := Away.mk (HS.out.below hb)
  replace HS2 := Away.mk (HS2.out.below hb)
  replace HB := Away.mk (HB.out.trans (hb.mono HB.out.size))
  clear hb
  clear HS
  clear HS2
  go_wp2_with fail
  refine (mul_n _ HNA.out HNB.out (by decide) (by decide)).mono ?_
  rintro _ x4 ⟨m, rfl, hm, hb⟩
  replace HNA := Away.mk (HNA.out.below hb)
  replace HNB := Away.mk (HNB.out.below hb)
  replace HND := Away.mk (HND.out.below hb)
  replace HC := Away.mk (HC.out.below hb)
  replace HB := Away.mk (HB.out.trans (hb.mono HB.out.size))
  clear hb
  have HM := Away.mk (hm.num (K := 160) (mul_fits (B := W32) (m := 80) (n := 80) LA.out LB.out))
  clear hm
  go_wp2_with fail
  refine (mul_n _ HNB.out HNA.out (by decide) (by decide)).mono ?_
  rw [e2.out]
  rintro _ x5 ⟨m', rfl, hm, hb⟩
  replace HNA := Away.mk (HNA.out.below hb)
  replace HNB := Away.mk (HNB.out.below hb)
  replace HND := Away.mk (HND.out.below hb)
  replace HC := Away.mk (HC.out.below hb)
  replace HM := Away.mk (HM.out.below hb)
  replace HB := Away.mk (HB.out.trans (hb.mono HB.out.size))
  clear hb
  have HM2 := Away.mk (hm.num (K := 160) (mul_fits (B := W32) (m := 80) (n := 80) LA.out LB.out))
  clear hm
  go_wp2_with fail
  refine (cmp_n _ HM.out HM2.out (by decide) (by decide)).mono ?_
  rw [cmpI_eq]
  rintro _ x6 ⟨rfl, hb⟩
  replace HNA := Away.mk (HNA.out.below hb)
  replace HNB := Away.mk (HNB.out.below hb)
  replace HND := Away.mk (HND.out.below hb)
  replace HC := Away.mk (HC.out.below hb)
  replace HM := Away.mk (HM.out.below hb)
  replace HM2 := Away.mk (HM2.out.below hb)
  replace HB := Away.mk (HB.out.trans (hb.mono HB.out.size))
  clear hb
  clear HM
  clear HM2
  have LS2 := Away.mk (pow_sum (by decide) LB.out LD.out (Nat.le_refl 80) (Nat.le_refl 80))
  have LP3 := Away.mk (mul_fits (B := W32) (m := 80) (n := 81) LA.out LS2.out)
  have LP3' : Away (A * B + A * D < W32 ^ 161) := ⟨by rw [← e3.out]; exact LP3.out⟩
  go_wp2_with fail
  refine (add_n _ HNB.out HND.out (by decide) (by decide)).mono ?_
  rintro _ x7 ⟨s2, rfl, hs, hb⟩
  replace HNA := Away.mk (HNA.out.below hb)
  replace HNB := Away.mk (HNB.out.below hb)
  replace HND := Away.mk (HND.out.below hb)
  replace HC := Away.mk (HC.out.below hb)
  replace HB := Away.mk (HB.out.trans (hb.mono HB.out.size))
  clear hb
  have HS := Away.mk (hs.num (K := 81) LS2.out)
  clear hs
  go_wp2_with fail
  refine (mul_n _ HNA.out HS.out (by decide) (by decide)).mono ?_
  rw [e3.out]
  rintro _ x8 ⟨m3, rfl, hm, hb⟩
  replace HNA := Away.mk (HNA.out.below hb)
  replace HNB := Away.mk (HNB.out.below hb)
  replace HND := Away.mk (HND.out.below hb)
  replace HC := Away.mk (HC.out.below hb)
  replace HS := Away.mk (HS.out.below hb)
  replace HB := Away.mk (HB.out.trans (hb.mono HB.out.size))
  clear hb
  have HM := Away.mk (hm.num (K := 161) LP3'.out)
  clear hm
  clear HS
  go_wp2_with fail
  refine (mul_n _ HNA.out HNB.out (by decide) (by decide)).mono ?_
  rintro _ x9 ⟨m4, rfl, hm, hb⟩
  replace HNA := Away.mk (HNA.out.below hb)
  replace HNB := Away.mk (HNB.out.below hb)
  replace HND := Away.mk (HND.out.below hb)
  replace HC := Away.mk (HC.out.below hb)
  replace HM := Away.mk (HM.out.below hb)
  replace HB := Away.mk (HB.out.trans (hb.mono HB.out.size))
  clear hb
  have HM4 := Away.mk (hm.num (K := 160) (mul_fits (B := W32) (m := 80) (n := 80) LA.out LB.out))
  clear hm
  go_wp2_with fail
  refine (mul_n _ HNA.out HND.out (by decide) (by decide)).mono ?_
  rintro _ x10 ⟨m5, rfl, hm, hb⟩
  replace HNA := Away.mk (HNA.out.below hb)
  replace HNB := Away.mk (HNB.out.below hb)
  replace HND := Away.mk (HND.out.below hb)
  replace HC := Away.mk (HC.out.below hb)
  replace HM := Away.mk (HM.out.below hb)
  replace HM4 := Away.mk (HM4.out.below hb)
  replace HB := Away.mk (HB.out.trans (hb.mono HB.out.size))
  clear hb
  have HM5 := Away.mk (hm.num (K := 160) (mul_fits (B := W32) (m := 80) (n := 80) LA.out LD.out))
  clear hm
  go_wp2_with fail
  refine (add_n _ HM4.out HM5.out (by decide) (by decide)).mono ?_
  rintro _ x11 ⟨s6, rfl, hs, hb⟩
  replace HNA := Away.mk (HNA.out.below hb)
  replace HNB := Away.mk (HNB.out.below hb)
  replace HND := Away.mk (HND.out.below hb)
  replace HC := Away.mk (HC.out.below hb)
  replace HM := Away.mk (HM.out.below hb)
  replace HM4 := Away.mk (HM4.out.below hb)
  replace HM5 := Away.mk (HM5.out.below hb)
  replace HB := Away.mk (HB.out.trans (hb.mono HB.out.size))
  clear hb
  have HS6 := Away.mk (hs.num (K := 161) LP3'.out)
  clear hs
  clear HM4
  clear HM5
  go_wp2_with fail
  refine (cmp_n _ HM.out HS6.out (by decide) (by decide)).mono ?_
  rw [cmpI_eq]
  rintro _ x12 ⟨rfl, hb⟩
  replace HNA := Away.mk (HNA.out.below hb)
  replace HNB := Away.mk (HNB.out.below hb)
  replace HND := Away.mk (HND.out.below hb)
  replace HC := Away.mk (HC.out.below hb)
  replace HM := Away.mk (HM.out.below hb)
  replace HS6 := Away.mk (HS6.out.below hb)
  replace HB := Away.mk (HB.out.trans (hb.mono HB.out.size))
  clear hb
  clear HM
  clear HS6
  clear HNB
  go_upto_if 63 with fail
  go_cut [9] from 64 to 68 (fun nv wc => ∃ n : Nat, nv = .int .i64 (n : Int) ∧ n ≤ 255 ∧ wc = x12)
  case first =>
    have hC := HC.out; have hCL := HCL.out
    rcases Nat.eq_zero_or_pos len2 with hz | hz
    · subst hz
      clear hC hCL
      go_wp2
      go_meet
      case rel => exact ⟨0, rfl, by omega, rfl⟩
    · obtain ⟨b, off, rfl, _, hcx⟩ := hC.cells (by rw [C_length]; omega)
      have hck := hcx 0 _ (C_get _ (by omega))
      rw [Nat.add_zero] at hck
      have hxb : xs2.getD 0 0 < 4294967296 := hCL.1.getD (by decide) _
      generalize xs2.getD 0 0 = x at *
      have hand := u32_and_nat x 255 hxb (by decide)
      have hle : x &&& 255 ≤ 255 := Nat.and_le_right
      obtain ⟨y, hy⟩ : ∃ y, x &&& 255 = y := ⟨_, rfl⟩
      rw [hy] at hand hle
      rw [show ((255 : Nat) : Int) = 255 from rfl] at hand
      clear hcx hC hCL hy
      go_wp2
      go_meet
      case rel => exact ⟨y, rfl, hle, rfl⟩
  case rest =>
    obtain ⟨n, rfl, hn, rfl⟩ := hcut
    clear HC HCL HND
    have LN : Away (A * 2 ^ n < W32 ^ (80 + 8)) := ⟨shl_fits LA.out (by omega)⟩
    have LO : Away (1 * 2 ^ n < W32 ^ 8) := ⟨by rw [Nat.one_mul, pow32]; exact Nat.pow_lt_pow_right (by decide) (by omega)⟩
    have E1 : Away (A * (1 * 2 ^ n) = A * 2 ^ n) := ⟨by rw [Nat.one_mul]⟩
    have E2 : Away (A * 2 ^ n / 2 ^ n = A) := ⟨Nat.mul_div_cancel _ (Nat.pow_pos (by decide))⟩
    have LONE : Away (1 < W32 ^ 1) := ⟨by decide⟩
    have HFR := fun v => from_any 1 (by decide) v
    have HFR := Away.mk HFR
    go_wp2_with fail
    refine (HFR.out _).mono ?_
    rintro _ x13 ⟨o, rfl, ho, hb⟩
    replace HNA := Away.mk (HNA.out.below hb)
    replace HB := Away.mk (HB.out.trans (hb.mono HB.out.size))
    clear hb
    have HO := Away.mk (ho.ra.num (K := 1) LONE.out)
    clear ho
    go_wp2_with fail
    refine (shl_n n _ HO.out (by decide) (by omega)).mono ?_
    rintro _ x14 ⟨p, rfl, hp, hb⟩
    replace HNA := Away.mk (HNA.out.below hb)
    replace HO := Away.mk (HO.out.below hb)
    replace HB := Away.mk (HB.out.trans (hb.mono HB.out.size))
    clear hb
    have HP := Away.mk (hp.num (K := 8) LO.out)
    clear hp
    clear HO
    go_wp2_with fail
    refine (shl_n n _ HNA.out (by decide) (by omega)).mono ?_
    rintro _ x15 ⟨q, rfl, hq, hb⟩
    replace HNA := Away.mk (HNA.out.below hb)
    replace HP := Away.mk (HP.out.below hb)
    replace HB := Away.mk (HB.out.trans (hb.mono HB.out.size))
    clear hb
    have HQ := Away.mk (hq.num (K := 80 + 8) LN.out)
    clear hq
    go_wp2_with fail
    refine (mul_n _ HNA.out HP.out (by decide) (by decide)).mono ?_
    rw [E1.out]
    rintro _ x16 ⟨m, rfl, hm, hb⟩
    replace HNA := Away.mk (HNA.out.below hb)
    replace HP := Away.mk (HP.out.below hb)
    replace HQ := Away.mk (HQ.out.below hb)
    replace HB := Away.mk (HB.out.trans (hb.mono HB.out.size))
    clear hb
    have HM := Away.mk (hm.num (K := 80 + 8) LN.out)
    clear hm
    go_wp2_with fail
    refine (cmp_n _ HQ.out HM.out (by decide) (by decide)).mono ?_
    rw [cmpI_eq]
    rintro _ x17 ⟨rfl, hb⟩
    replace HNA := Away.mk (HNA.out.below hb)
    replace HP := Away.mk (HP.out.below hb)
    replace HQ := Away.mk (HQ.out.below hb)
    replace HM := Away.mk (HM.out.below hb)
    replace HB := Away.mk (HB.out.trans (hb.mono HB.out.size))
    clear hb
    clear HM
    clear HP
    go_wp2_with fail
    refine (shr_n n _ HQ.out (by decide) (by omega)).mono ?_
    rw [E2.out]
    rintro _ x18 ⟨t, rfl, ht, hb⟩
    replace HNA := Away.mk (HNA.out.below hb)
    replace HQ := Away.mk (HQ.out.below hb)
    replace HB := Away.mk (HB.out.trans (hb.mono HB.out.size))
    clear hb
    have HT := Away.mk (ht.num (K := 80) LA.out)
    clear ht
    go_wp2_with fail
    refine (cmp_n _ HT.out HNA.out (by decide) (by decide)).mono ?_
    rw [cmpI_eq]
    rintro _ x19 ⟨rfl, hb⟩
    replace HNA := Away.mk (HNA.out.below hb)
    replace HQ := Away.mk (HQ.out.below hb)
    replace HT := Away.mk (HT.out.below hb)
    replace HB := Away.mk (HB.out.trans (hb.mono HB.out.size))
    clear hb
    go_wp2_with fail
    refine (alive_true _).mono ?_
    rintro _ x20 ⟨rfl, hb⟩
    replace HNA := Away.mk (HNA.out.below hb)
    replace HQ := Away.mk (HQ.out.below hb)
    replace HT := Away.mk (HT.out.below hb)
    replace HB := Away.mk (HB.out.trans (hb.mono HB.out.size))
    clear hb
    go_wp2
    go_ret
    exact ⟨rfl, HB.out⟩

set_option maxRecDepth 100000 in
theorem lifted (os : Os) (started : os.Started) (H : Type) (enc : TypeId × Value → H) :
    ReturnsInHanded {} Try.checked os 9 .any (Rows.natLawsSpec.pre6 enc Try.prog Try.f9 Rows.natLawsRow.domain false) (Rows.natLawsSpec.post enc Try.prog Try.f9 false true false false) := by
  refine returnsInHanded_of_change (C := Try.checked) own started (by kernel_rfl) Try.func9
    (ChangeSpec.witness6 (enc := enc) (C := Try.checked) false ⟨#[], #[.slice none 0 0, .slice none 0 0, .slice none 0 0], []⟩ 8 (by kernel_rfl) (by kernel_rfl) (by kernel_rfl) (by kernel_rfl)) ?_
  intro W base args ds gs before hval0 hW hcnd _
  have hval : ∀ (j : Nat) t v, Try.f9.params[j]? = some t → args[j]? = some v → Value.okWide Try.prog W .any base t v := hval0
  have hW' := hW
  obtain ⟨p, q, hA0, hV, rfl, hfz, hnd⟩ := hW
  have hA : DataW.TrodAll enc Try.prog W 0 (fun _ => true) true Try.f9.params.toList args.toList ds p := hA0
  rw [Try.params9] at hA hval
  obtain ⟨v0, vs0, d0, ds0, p0, q0, hargs, rfl, rfl, h0, r0⟩ := trodAll_cons hA
  obtain ⟨v1, vs1, d1, ds1, p1, q1, rfl, rfl, rfl, h1, r1⟩ := trodAll_cons r0
  obtain ⟨v2, vs2, d2, ds2, p2, q2, rfl, rfl, rfl, h2, r2⟩ := trodAll_cons r1
  obtain ⟨rfl, rfl, rfl⟩ := trodAll_nil r2
  obtain rfl : args = #[v0, v1, v2] := by cases args; simp_all
  obtain ⟨rfl, rfl⟩ := trodVars_none hV
  obtain ⟨a0, len0, cap0, rfl⟩ := okWide_slice Try.underlying23 (hval 0 23 v0 rfl rfl)
  have k0 := h0
  have lt0 : ∀ x ∈ p0, x.block < W.heap.size := by obtain ⟨m, hm⟩ := k0; exact DataW.trod_lt m _ _ _ hm
  obtain ⟨z0, w0⟩ : ∃ zs, IsRow .u32 W a0 len0 cap0 zs := by
    obtain ⟨fuel, hf⟩ := h0
    rcases open_ints Try.underlying23 Try.underlying47 (by kernel_rfl) hf with ⟨hcs, _⟩ | ⟨x, l, c, zs, hcs, _, hl, hm, hz, _, hcell, hwz⟩
    · simp [Value.cells] at hcs
      obtain ⟨rfl, rfl, rfl⟩ := hcs
      exact ⟨[], .inl ⟨rfl, rfl, rfl, rfl⟩⟩
    · simp [Value.cells] at hcs
      obtain ⟨rfl, rfl, rfl⟩ := hcs
      exact ⟨zs, .inr ⟨_, rfl, hl, hm, by simpa using hz, hcell, hwz⟩⟩
  obtain ⟨a1, len1, cap1, rfl⟩ := okWide_slice Try.underlying23 (hval 1 23 v1 rfl rfl)
  have k1 := h1
  have lt1 : ∀ x ∈ p1, x.block < W.heap.size := by obtain ⟨m, hm⟩ := k1; exact DataW.trod_lt m _ _ _ hm
  obtain ⟨z1, w1⟩ : ∃ zs, IsRow .u32 W a1 len1 cap1 zs := by
    obtain ⟨fuel, hf⟩ := h1
    rcases open_ints Try.underlying23 Try.underlying47 (by kernel_rfl) hf with ⟨hcs, _⟩ | ⟨x, l, c, zs, hcs, _, hl, hm, hz, _, hcell, hwz⟩
    · simp [Value.cells] at hcs
      obtain ⟨rfl, rfl, rfl⟩ := hcs
      exact ⟨[], .inl ⟨rfl, rfl, rfl, rfl⟩⟩
    · simp [Value.cells] at hcs
      obtain ⟨rfl, rfl, rfl⟩ := hcs
      exact ⟨zs, .inr ⟨_, rfl, hl, hm, by simpa using hz, hcell, hwz⟩⟩
  obtain ⟨a2, len2, cap2, rfl⟩ := okWide_slice Try.underlying23 (hval 2 23 v2 rfl rfl)
  have k2 := h2
  have lt2 : ∀ x ∈ p2, x.block < W.heap.size := by obtain ⟨m, hm⟩ := k2; exact DataW.trod_lt m _ _ _ hm
  obtain ⟨z2, w2⟩ : ∃ zs, IsRow .u32 W a2 len2 cap2 zs := by
    obtain ⟨fuel, hf⟩ := h2
    rcases open_ints Try.underlying23 Try.underlying47 (by kernel_rfl) hf with ⟨hcs, _⟩ | ⟨x, l, c, zs, hcs, _, hl, hm, hz, _, hcell, hwz⟩
    · simp [Value.cells] at hcs
      obtain ⟨rfl, rfl, rfl⟩ := hcs
      exact ⟨[], .inl ⟨rfl, rfl, rfl, rfl⟩⟩
    · simp [Value.cells] at hcs
      obtain ⟨rfl, rfl, rfl⟩ := hcs
      exact ⟨zs, .inr ⟨_, rfl, hl, hm, by simpa using hz, hcell, hwz⟩⟩
  clear hA0 hval0
  refine (walk a0 len0 cap0 z0 a1 len1 cap1 z1 a2 len2 cap2 z2 W w0 w1 w2).mono fun e W' ⟨he, bel⟩ => ?_
  subst he
  exact ⟨_, rfl, _, _, _, [], _, [], hW', trodAll_mk1 (shut_bool Try.underlying4 _), (trodAll_cons_mk (Below.trod laidOut (by kernel_rfl) (of_decide_eq_true (by kernel_rfl)) k0 bel lt0) (trodAll_cons_mk (Below.trod laidOut (by kernel_rfl) (of_decide_eq_true (by kernel_rfl)) k1 bel lt1) (trodAll_cons_mk (Below.trod laidOut (by kernel_rfl) (of_decide_eq_true (by kernel_rfl)) k2 bel lt2) trodAll_mk0))), rfl, bel.frame _, fun h => by cases h⟩

theorem over : Rows.natLawsRow.holds Try.pinned (OpenSpec.ofChange Rows.natLawsSpec) :=
  OpenClaim.holds_of_wide 9 Try.f9 rfl rfl rfl rfl rfl rfl rfl ⟨rfl, rfl, rfl, rfl, rfl⟩ rfl rfl rfl rfl rfl (by kernel_rfl) Try.func9 (by kernel_rfl)
    (of_decide_eq_true (by kernel_rfl)) (by unfold Func.isWrapper; first | (rw [if_pos (by decide +kernel)]; kernel_rfl) | (rw [if_neg (by decide +kernel)]; exact ⟨rfl, rfl⟩))
    (fun os started H enc _ => lifted os started H enc)

end Go.Proofs.Ytmbmabgdhdbmeaa.natLaws
namespace Go.Proofs.Ytmbmabgdhdbmeaa
/-- The given statement. -/
theorem natLaws_proved : Rows.NatLawsSaid := natLaws.over
end Go.Proofs.Ytmbmabgdhdbmeaa
