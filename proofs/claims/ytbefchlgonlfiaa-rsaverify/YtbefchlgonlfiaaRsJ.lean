/-
  Signatures, Check, the live question; what the laws of layer 10 want.
-/
import Derived.Test.YtbefchlgonlfiaaRsK
import Derived.Test.YtbefchlgonlfiaaLawK5
import Derived.Test.YtbefchlgonlfiaaNatG
import Derived.Test.YtbefchlgonlfiaaAlive5
import Derived.Test.YtbefchlgonlfiaaRefK
import Derived.Test.YtbefchlgonlfiaaKit8
import Derived.ShutString
namespace Go.Proofs.Ytbefchlgonlfiaa.R10
open Go.RowKit
set_option linter.unusedVariables false
set_option maxRecDepth 10000

/-- How many bytes a number has. -/
def kl (N : Nat) : Nat := (bl N + 7) / 8
theorem kl_le (N k : Nat) : kl N ≤ k ↔ N < 256 ^ k := size_le N k
theorem kl_lt (N : Nat) : N < 256 ^ kl N := (kl_le N _).1 (Nat.le_refl _)
theorem kl_mono {A B : Nat} (h : A ≤ B) : kl A ≤ kl B := (kl_le A _).2 (Nat.lt_of_le_of_lt h (kl_lt B))
theorem num_kl {w : World} {v : Value} {N K : Nat} (h : Num w v N K) : kl N ≤ 4 * K := by
  have := h.bl; unfold kl; omega
theorem w32_pow (K : Nat) : 256 ^ (4 * K) = W32 ^ K := by rw [Nat.pow_mul]
/-- The message as a number, 0 if there is none. -/
def mnm (a : Int) (ds : List Nat) (N : Nat) : Nat := val 256 (mout a ds (kl N : Nat)).reverse
theorem mnm_lt {a : Int} {ds : List Nat} {N K : Nat} (hd : Lo 256 ds) (h : kl N ≤ 4 * K) : mnm a ds N < W32 ^ K := by
  have h1 : mnm a ds N < 256 ^ (mout a ds (kl N : Nat)).length := val_lo_lt (mout_lo _ hd)
  refine Nat.lt_of_lt_of_le h1 ?_
  rw [← w32_pow]
  refine Nat.pow_le_pow_right (by decide) ?_
  by_cases h0 : merr a ds.length (kl N : Nat) = 0
  · rw [mout_length h0]; simpa using h
  · rw [mout_no h0]; exact Nat.zero_le _
theorem merr_pos {a : Int} {n N : Nat} (h : merr a n (kl N : Nat) = 0) : N ≠ 0 := by
  intro h0
  obtain ⟨h1, h2, h3, h4⟩ := merr_zero h
  rw [h0, show kl 0 = 0 from rfl] at h4
  have := (pfx_len h1).1
  omega
/-- Is S a signature of the message M? -/
def isof (M S N E : Nat) : Bool := decide (S < N) && decide (S ^ E % N = M)

theorem parity {xs : List Nat} : val W32 xs % 2 = xs.getD 0 0 % 2 := by
  cases xs with
  | nil => rfl
  | cons x r => simp only [val, List.getD_cons_zero]; rw [show (W32 : Nat) = 2 * 2147483648 from rfl, Nat.mul_assoc, Nat.add_mul_mod_self_left]
theorem bit0_n {va : Value} {A K : Nat} (w : World) (ha : Num w va A K) (hK : K ≤ 1000) :
    Calls Try.prog 56 #[va, .int .i64 0] w fun e w' => e = .returned (.int .i64 ((A % 2 : Nat) : Int)) ∧ w = w' := by
  obtain ⟨xs, h1, h2, h3, h4⟩ := ha
  by_cases h0 : xs.length = 0
  · obtain rfl : xs = [] := List.eq_nil_of_length_eq_zero h0
    subst h3
    have := bit_none va [] 0 w h1 (by simp) (.inr (by simp)) (by decide)
    exact this
  · have := bit_any va xs 0 w h1 h2 (by omega) (by omega) (by omega)
    rw [← h3, parity]
    simpa using this
theorem even_n {va : Value} {A K : Nat} (w : World) (ha : Num w va A K) (hK : K ≤ 1000) :
    Calls Try.prog 40 #[va] w fun e w' => e = .returned (.bool (decide (A % 2 = 0))) ∧ w = w' := by
  have HB := Away.mk (bit0_n w ha hK)
  clear ha
  obtain ⟨p, hp⟩ : ∃ p, A % 2 = p := ⟨_, rfl⟩
  rw [hp] at HB ⊢
  clear hp
  go_enter Try.func40, Try.ntmps40
  go_wp2_with fail
  refine HB.out.mono ?_
  rintro _ w1 ⟨rfl, rfl⟩
  clear HB
  by_cases h0 : p = 0
  · subst h0
    go_wp2
    go_ret
    exact ⟨rfl, rfl⟩
  · have h1 : ¬ ((p : Int) = 0) := by omega
    go_wp2
    go_ret
    exact ⟨by simp [h0], rfl⟩

set_option maxHeartbeats 2000000 in
theorem messageBy_n {vn vd : Value} {N K : Nat} (a : Int) (ds : List Nat) (w : World) (hn : Num w vn N K) (hd : SlV w vd (C .u8 ds)) (hl : Lo 256 ds) (hm : ds.length ≤ 10000) (hK : K ≤ 400) :
    Calls Try.prog 31 #[vn, .int .i64 a, vd] w fun e w' => ∃ v', e = .returned (.tuple #[v', .int .i64 (merr a ds.length (kl N : Nat))]) ∧ RA w' v' (mnm a ds N) ∧ Below w.heap.size w w' := by
  have hbl := hn.bl
  have HK := Away.mk (num_kl hn)
  have HB := Away.mk (bits_n w hn (by omega))
  have HD := Away.mk hd; have HL := Away.mk hl
  clear hd hl hn
  obtain ⟨b, hb⟩ : ∃ b, bl N = b := ⟨_, rfl⟩
  have HKL : Away (kl N = (b + 7) / 8) := ⟨by rw [← hb]; rfl⟩
  rw [hb] at HB hbl
  clear hb
  have e1 : IntKind.i64.wrap ((b : Int) + 8) = ((b + 8 : Nat) : Int) := by rw [IntWalk.i64_in _ ⟨by omega, by omega⟩]; omega
  have e2 : IntKind.i64.wrap (((b + 8 : Nat) : Int) - 1) = ((b + 7 : Nat) : Int) := by rw [IntWalk.i64_in _ ⟨by omega, by omega⟩]; omega
  obtain ⟨kk, hkk⟩ : ∃ kk, (b + 7) / 8 = kk := ⟨_, rfl⟩
  have E3 : Away (((b : Int) + 8 - 1) / 8 = (kk : Int)) := ⟨by omega⟩
  have hkm : kk ≤ 10000 := by omega
  rw [hkk] at HKL
  rw [HKL.out]
  clear hkk
  obtain ⟨er, her⟩ : ∃ er, merr a ds.length (kk : Int) = er := ⟨_, rfl⟩
  have HER := Away.mk her
  rw [her]
  by_cases h0 : er = 0
  · subst h0
    have HLen := Away.mk (mout_length her)
    clear her
    go_enter Try.func31, Try.ntmps31
    go_wp2_with fail
    refine HB.out.mono ?_
    rintro _ w1 ⟨rfl, hb1⟩
    replace HD := Away.mk (HD.out.below hb1)
    have HB1 := Away.mk hb1
    clear HB hb1
    go_wp2_with fail
    rw [E3.out]
    refine (message_any a _ ds (kk : Int) _ ⟨by omega, by omega⟩ HD.out (by omega)).mono ?_
    rw [HER.out]
    rintro _ w2 ⟨v2, rfl, hv2, hb2⟩
    have HV2 := Away.mk hv2; have HB2 := Away.mk (HB1.out.trans (hb2.mono HB1.out.size))
    clear hv2 hb2 HB1
    go_wp2_with fail
    refine (read_any _ _ _ HV2.out (mout_lo _ HL.out) (by rw [HLen.out]; simp; omega)).mono ?_
    rintro _ w3 ⟨v3, rfl, hv3, hb3⟩
    have HV3 := Away.mk hv3.ra; have HB3 := Away.mk (HB2.out.trans (hb3.mono HB2.out.size))
    clear hv3 hb3 HB2 HV2
    go_wp2
    go_ret2
    refine ⟨_, rfl, ?_, HB3.out⟩
    unfold mnm
    rw [HKL.out]
    exact HV3.out
  · have HM : Away (mnm a ds N = 0) := ⟨by unfold mnm; rw [HKL.out, mout_no (by rw [her]; exact h0)]; rfl⟩
    clear her
    go_enter Try.func31, Try.ntmps31
    go_wp2_with fail
    refine HB.out.mono ?_
    rintro _ w1 ⟨rfl, hb1⟩
    replace HD := Away.mk (HD.out.below hb1)
    have HB1 := Away.mk hb1
    clear HB hb1
    go_wp2_with fail
    rw [E3.out]
    refine (message_any a _ ds (kk : Int) _ ⟨by omega, by omega⟩ HD.out (by omega)).mono ?_
    rw [HER.out]
    rintro _ w2 ⟨v2, rfl, hv2, hb2⟩
    have HV2 := Away.mk hv2; have HB2 := Away.mk (HB1.out.trans (hb2.mono HB1.out.size))
    clear hv2 hb2 HB1
    go_wp2
    go_ret2
    refine ⟨_, rfl, ?_, HB2.out⟩
    rw [HM.out]
    exact ⟨[], Is.nil, SlV.nil _⟩

set_option maxHeartbeats 2000000 in
theorem isOf_n {vm vs vn ve : Value} {M S N E K L J I : Nat} (w : World) (hm : Num w vm M K) (hs : Num w vs S L) (hn : Num w vn N J) (he : Num w ve E I) (hK : K ≤ 400) (hL : L ≤ 400) (hJ : J ≤ 400) (hI : I ≤ 400) :
    Calls Try.prog 32 #[vm, vs, vn, ve] w fun e w' => e = .returned (.bool (isof M S N E)) ∧ Below w.heap.size w w' := by
  have HC := Away.mk (cmp_n w hs hn (by omega) (by omega))
  by_cases h : S < N
  · have h0 : N ≠ 0 := by omega
    have HLT := Away.mk hn.lt
    have HM := Away.mk hm; have HS := Away.mk hs; have HN := Away.mk hn; have HE := Away.mk he
    obtain ⟨X, hX⟩ : ∃ X, S ^ E % N = X := ⟨_, rfl⟩
    have HX := Away.mk hX
    have HI : Away (isof M S N E = decide (X = M)) := ⟨by simp [isof, h, hX]⟩
    rw [HI.out]
    clear hm hs hn he HI hX
    rw [cmpI_lt h] at HC
    go_enter Try.func32, Try.ntmps32
    go_wp2_with fail
    refine HC.out.mono ?_
    rintro _ w1 ⟨rfl, hb1⟩
    replace HM := Away.mk (HM.out.below hb1); replace HS := Away.mk (HS.out.below hb1); replace HN := Away.mk (HN.out.below hb1); replace HE := Away.mk (HE.out.below hb1)
    have HB := Away.mk hb1
    clear hb1 HC
    go_wp2_with fail
    refine (exp_n _ HS.out HE.out HN.out hL hI hJ h0).mono ?_
    rintro _ w2 ⟨v2, rfl, hv2, hb2⟩
    replace HM := Away.mk (HM.out.below hb2)
    have HV := Away.mk (hv2.numLt (Nat.mod_lt _ (Nat.pos_of_ne_zero h0)) HLT.out)
    rw [HX.out] at HV
    replace HB := Away.mk (HB.out.trans (hb2.mono HB.out.size))
    clear hv2 hb2 HS HN HE
    clear HX
    go_wp2_with fail
    refine (cmp_n _ HV.out HM.out (by omega) (by omega)).mono ?_
    rintro _ w3 ⟨rfl, hb3⟩
    replace HB := Away.mk (HB.out.trans (hb3.mono HB.out.size))
    clear hb3 HV HM
    by_cases hx : X = M
    · subst hx
      rw [cmpI_eq]
      go_wp2
      go_ret
      exact ⟨by simp, HB.out⟩
    · have d1 : ¬ (cmpI X M = 0) := by rw [cmpI_zero]; exact hx
      generalize cmpI X M = c at *
      go_wp2
      go_ret
      exact ⟨by simp [hx, d1], HB.out⟩
  · have HI : Away (isof M S N E = false) := ⟨by simp [isof, h]⟩
    rw [HI.out]
    have d1 : 0 ≤ cmpI S N := by
      rcases Int.lt_or_le (cmpI S N) 0 with h1 | h1
      · exact absurd (cmpI_neg.1 h1) h
      · exact h1
    clear hm hs hn he HI
    generalize cmpI S N = c at *
    go_enter Try.func32, Try.ntmps32
    go_wp2_with fail
    refine HC.out.mono ?_
    rintro _ w1 ⟨rfl, hb1⟩
    have HB := Away.mk hb1
    clear hb1 HC
    go_wp2
    go_ret
    exact ⟨rfl, HB.out⟩

/-- Verify's answer. -/
def vfy (N E : Nat) (a : Int) (ds sg : List Nat) : Bool := decide (merr a ds.length (kl N : Nat) = 0) && isof (mnm a ds N) (val 256 sg.reverse) N E
theorem bytes_lt {bs : List Nat} (h : Lo 256 bs) {K : Nat} (hk : bs.length ≤ 4 * K) : val 256 bs.reverse < W32 ^ K := by
  refine Nat.lt_of_lt_of_le (val_lo_lt h) ?_
  rw [← w32_pow]
  exact Nat.pow_le_pow_right (by decide) hk

set_option maxHeartbeats 2000000 in
theorem verify_n {vn ve vd vs : Value} {N E K I : Nat} (a : Int) (ds sg : List Nat) (w : World) (hn : Num w vn N K) (he : Num w ve E I) (hd : SlV w vd (C .u8 ds)) (hs : SlV w vs (C .u8 sg)) (hl : Lo 256 ds) (hg : Lo 256 sg) (hm : ds.length ≤ 10000) (hsm : sg.length ≤ 1600) (hK : K ≤ 400) (hI : I ≤ 400) :
    Calls Try.prog 15 #[vn, ve, .int .i64 a, vd, vs] w fun e w' => e = .returned (.bool (vfy N E a ds sg)) ∧ Below w.heap.size w w' := by
  have HK := Away.mk (num_kl hn)
  have HC := Away.mk (messageBy_n a ds w hn hd hl hm hK)
  have HML := Away.mk (mnm_lt (a := a) (ds := ds) (N := N) hl HK.out)
  have HSL := Away.mk (bytes_lt hg (K := 400) (by omega))
  obtain ⟨ls, hls⟩ : ∃ n, sg.length = n := ⟨_, rfl⟩
  obtain ⟨ss, sc, rfl, q1, q2⟩ := hs.shp hls
  rw [hls] at hsm
  have HN := Away.mk hn; have HE := Away.mk he; have HS := Away.mk hs; have HG := Away.mk hg
  clear hn he hd hs hl hg
  by_cases h0 : merr a ds.length (kl N : Nat) = 0
  · have HV : Away (vfy N E a ds sg = isof (mnm a ds N) (val 256 sg.reverse) N E) := ⟨by simp [vfy, h0]⟩
    rw [HV.out]
    rw [h0] at HC
    clear HV h0
    generalize mnm a ds N = M at *
    go_enter Try.func15, Try.ntmps15
    go_wp2_with fail
    refine HC.out.mono ?_
    rintro _ w1 ⟨v1, rfl, hv1, hb1⟩
    have HV1 := Away.mk (hv1.num HML.out)
    replace HN := Away.mk (HN.out.below hb1); replace HE := Away.mk (HE.out.below hb1); replace HS := Away.mk (HS.out.below hb1)
    have HB := Away.mk hb1
    clear hv1 hb1 HC
    go_wp2_with fail
    refine (read_any _ sg _ HS.out HG.out (by omega)).mono ?_
    rintro _ w2 ⟨v2, rfl, hv2, hb2⟩
    have HV2 := Away.mk (hv2.ra.num HSL.out)
    replace HV1 := Away.mk (HV1.out.below hb2); replace HN := Away.mk (HN.out.below hb2); replace HE := Away.mk (HE.out.below hb2)
    replace HB := Away.mk (HB.out.trans (hb2.mono HB.out.size))
    clear hv2 hb2 HS
    go_wp2_with fail
    refine (isOf_n _ HV1.out HV2.out HN.out HE.out (by omega) (by omega) (by omega) (by omega)).mono ?_
    rintro _ w3 ⟨rfl, hb3⟩
    replace HB := Away.mk (HB.out.trans (hb3.mono HB.out.size))
    clear hb3 HV1 HV2 HN HE
    go_wp2
    go_ret
    exact ⟨rfl, HB.out⟩
  · have HV : Away (vfy N E a ds sg = false) := ⟨by simp [vfy, h0]⟩
    rw [HV.out]
    clear HV
    generalize merr a ds.length (kl N : Nat) = er at *
    go_enter Try.func15, Try.ntmps15
    go_wp2_with fail
    refine HC.out.mono ?_
    rintro _ w1 ⟨v1, rfl, hv1, hb1⟩
    have HB := Away.mk hb1
    clear hv1 hb1 HC
    go_wp2
    go_ret
    exact ⟨rfl, HB.out⟩

/-- Sign's error and answer. -/
def ssg (N D : Nat) (a : Int) (ds : List Nat) : Nat := mnm a ds N ^ D % N
def serr (N E D : Nat) (a : Int) (ds : List Nat) : Int := if merr a ds.length (kl N : Nat) = 0 then (if isof (mnm a ds N) (ssg N D a ds) N E = true then 0 else 18) else merr a ds.length (kl N : Nat)
def sout (N E D : Nat) (a : Int) (ds : List Nat) : List Nat := if serr N E D a ds = 0 then be (ssg N D a ds) (kl (ssg N D a ds)) else []
theorem bytes_n {va : Value} {A K : Nat} (w : World) (ha : Num w va A K) (hK : K ≤ 1000) :
    Calls Try.prog 22 #[va] w fun e w' => ∃ v', e = .returned v' ∧ SlV w' v' (C .u8 (be A (kl A))) ∧ Below w.heap.size w w' := by
  obtain ⟨xs, h1, h2, h3, h4⟩ := ha
  subst h3
  exact bytes_any va xs w h1 h2 (by omega)

set_option maxHeartbeats 2000000 in
theorem sign_n {vn ve vd vg : Value} {N E D K I J : Nat} (a : Int) (ds : List Nat) (w : World) (hn : Num w vn N K) (he : Num w ve E I) (hd : Num w vd D J) (hg : SlV w vg (C .u8 ds)) (hl : Lo 256 ds) (hm : ds.length ≤ 10000) (hK : K ≤ 400) (hI : I ≤ 400) (hJ : J ≤ 400) :
    Calls Try.prog 17 #[vn, ve, vd, .int .i64 a, vg] w fun e w' => ∃ v', e = .returned (.tuple #[v', .int .i64 (serr N E D a ds)]) ∧ SlV w' v' (C .u8 (sout N E D a ds)) ∧ Below w.heap.size w w' := by
  have HK := Away.mk (num_kl hn)
  have HC := Away.mk (messageBy_n a ds w hn hg hl hm hK)
  have HML := Away.mk (mnm_lt (a := a) (ds := ds) (N := N) hl HK.out)
  have HLT := Away.mk hn.lt
  have HN := Away.mk hn; have HE := Away.mk he; have HD := Away.mk hd
  clear hn he hd hg hl
  by_cases h0 : merr a ds.length (kl N : Nat) = 0
  · have hN0 := merr_pos h0
    have HS : Away (serr N E D a ds = if isof (mnm a ds N) (ssg N D a ds) N E = true then 0 else 18) := ⟨by simp [serr, h0]⟩
    have HO : Away (sout N E D a ds = if isof (mnm a ds N) (ssg N D a ds) N E = true then be (ssg N D a ds) (kl (ssg N D a ds)) else []) := ⟨by
      unfold sout; rw [HS.out]; by_cases h : isof (mnm a ds N) (ssg N D a ds) N E = true <;> simp [h]⟩
    rw [HS.out, HO.out]
    rw [h0] at HC
    clear HS HO h0
    obtain ⟨S, hS⟩ : ∃ S, ssg N D a ds = S := ⟨_, rfl⟩
    rw [hS]
    have HSX : Away (mnm a ds N ^ D % N = S) := ⟨hS⟩
    clear hS
    generalize mnm a ds N = M at *
    have HSN : Away (S < N) := ⟨by rw [← HSX.out]; exact Nat.mod_lt _ (Nat.pos_of_ne_zero hN0)⟩
    by_cases hi : isof M S N E = true
    · rw [if_pos hi, if_pos hi]
      go_enter Try.func17, Try.ntmps17
      go_wp2_with fail
      refine HC.out.mono ?_
      rintro _ w1 ⟨v1, rfl, hv1, hb1⟩
      have HV1 := Away.mk (hv1.num HML.out)
      replace HN := Away.mk (HN.out.below hb1); replace HE := Away.mk (HE.out.below hb1); replace HD := Away.mk (HD.out.below hb1)
      have HB := Away.mk hb1
      clear hv1 hb1 HC
      go_wp2_with fail
      refine (exp_n _ HV1.out HD.out HN.out hK hJ hK hN0).mono ?_
      rw [HSX.out]
      rintro _ w2 ⟨v2, rfl, hv2, hb2⟩
      have HV2 := Away.mk (hv2.numLt HSN.out HLT.out)
      replace HV1 := Away.mk (HV1.out.below hb2); replace HN := Away.mk (HN.out.below hb2); replace HE := Away.mk (HE.out.below hb2)
      replace HB := Away.mk (HB.out.trans (hb2.mono HB.out.size))
      clear hv2 hb2 HD
      go_wp2_with fail
      refine (isOf_n _ HV1.out HV2.out HN.out HE.out hK hK hK hI).mono ?_
      rw [hi]
      rintro _ w3 ⟨rfl, hb3⟩
      replace HV2 := Away.mk (HV2.out.below hb3)
      replace HB := Away.mk (HB.out.trans (hb3.mono HB.out.size))
      clear hb3 HV1 HN HE
      go_wp2_with fail
      refine (bytes_n _ HV2.out (by omega)).mono ?_
      rintro _ w4 ⟨v4, rfl, hv4, hb4⟩
      have HV4 := Away.mk hv4
      replace HB := Away.mk (HB.out.trans (hb4.mono HB.out.size))
      clear hv4 hb4 HV2
      go_wp2
      go_ret2
      exact ⟨_, rfl, HV4.out, HB.out⟩
    · rw [if_neg hi, if_neg hi]
      have HI : Away (isof M S N E = false) := ⟨by simpa using hi⟩
      clear hi
      go_enter Try.func17, Try.ntmps17
      go_wp2_with fail
      refine HC.out.mono ?_
      rintro _ w1 ⟨v1, rfl, hv1, hb1⟩
      have HV1 := Away.mk (hv1.num HML.out)
      replace HN := Away.mk (HN.out.below hb1); replace HE := Away.mk (HE.out.below hb1); replace HD := Away.mk (HD.out.below hb1)
      have HB := Away.mk hb1
      clear hv1 hb1 HC
      go_wp2_with fail
      refine (exp_n _ HV1.out HD.out HN.out hK hJ hK hN0).mono ?_
      rw [HSX.out]
      rintro _ w2 ⟨v2, rfl, hv2, hb2⟩
      have HV2 := Away.mk (hv2.numLt HSN.out HLT.out)
      replace HV1 := Away.mk (HV1.out.below hb2); replace HN := Away.mk (HN.out.below hb2); replace HE := Away.mk (HE.out.below hb2)
      replace HB := Away.mk (HB.out.trans (hb2.mono HB.out.size))
      clear hv2 hb2 HD
      go_wp2_with fail
      refine (isOf_n _ HV1.out HV2.out HN.out HE.out hK hK hK hI).mono ?_
      rw [HI.out]
      rintro _ w3 ⟨rfl, hb3⟩
      replace HB := Away.mk (HB.out.trans (hb3.mono HB.out.size))
      clear hb3 HV1 HN HE HV2
      go_wp2
      go_ret2
      exact ⟨_, rfl, SlV.nil _, HB.out⟩
  · have HS : Away (serr N E D a ds = merr a ds.length (kl N : Nat)) := ⟨by simp [serr, h0]⟩
    have HO : Away (sout N E D a ds = []) := ⟨by unfold sout; rw [HS.out, if_neg h0]⟩
    rw [HS.out, HO.out]
    clear HS HO
    generalize merr a ds.length (kl N : Nat) = er at *
    go_enter Try.func17, Try.ntmps17
    go_wp2_with fail
    refine HC.out.mono ?_
    rintro _ w1 ⟨v1, rfl, hv1, hb1⟩
    have HB := Away.mk hb1
    clear hv1 hb1 HC
    go_wp2
    go_ret2
    exact ⟨_, rfl, SlV.nil _, HB.out⟩
end Go.Proofs.Ytbefchlgonlfiaa.R10
namespace Go.Proofs.Ytbefchlgonlfiaa.R10
open Go.RowKit
set_option linter.unusedVariables false
set_option maxRecDepth 10000

theorem refcmp_n {va vb : Value} {A B K L : Nat} (w : World) (ha : Num w va A K) (hb : Num w vb B L) (hK : K ≤ 1000) (hL : L ≤ 1000) :
    Calls Try.prog 25 #[va, vb] w fun e w' => e = .returned (.int .i64 (cmpI A B)) ∧ Below w.heap.size w w' := by
  obtain ⟨xs, h1, h2, h3, h4⟩ := ha
  obtain ⟨ys, g1, g2, g3, g4⟩ := hb
  subst h3; subst g3
  exact refcmp_any va vb xs ys w h1 g1 h2 g2 (by omega) (by omega)
theorem refbytes_n {va : Value} {A K : Nat} (w : World) (ha : Num w va A K) (hK : K ≤ 1000) :
    Calls Try.prog 37 #[va] w fun e w' => ∃ v', e = .returned v' ∧ SlV w' v' (C .u8 (be A (kl A))) ∧ Below w.heap.size w w' := by
  obtain ⟨xs, h1, h2, h3, h4⟩ := ha
  subst h3
  exact refbytes_any va xs w h1 h2 (by omega)
theorem reflong_n {va : Value} {A K : Nat} (w : World) (ha : Num w va A K) (hK : K ≤ 1000) :
    Calls Try.prog 33 #[va] w fun e w' => e = .returned (.int .i64 (kl A : Nat)) ∧ Below w.heap.size w w' := by
  have hbl := ha.bl
  have HB := Away.mk (refbits_n w ha hK)
  clear ha
  unfold kl
  generalize bl A = b at *
  go_enter Try.func33, Try.ntmps33
  go_wp2_with fail
  refine HB.out.mono ?_
  rintro _ w' ⟨rfl, hb⟩
  go_wp2
  go_ret
  exact ⟨ret_int (by omega), hb⟩

set_option maxHeartbeats 2000000 in
theorem refverify_n {vn ve vd vs : Value} {N E K I : Nat} (a : Int) (ds sg : List Nat) (w : World) (hn : Num w vn N K) (he : Num w ve E I) (hd : SlV w vd (C .u8 ds)) (hs : SlV w vs (C .u8 sg)) (hl : Lo 256 ds) (hg : Lo 256 sg) (hm : ds.length ≤ 10000) (hsm : sg.length ≤ 1600) (hK : K ≤ 400) (hI : I ≤ 400) :
    Calls Try.prog 16 #[vn, ve, .int .i64 a, vd, vs] w fun e w' => e = .returned (.bool (vfy N E a ds sg)) ∧ Below w.heap.size w w' := by
  have HK := Away.mk (num_kl hn)
  have HLG := Away.mk (reflong_n w hn (by omega))
  have HML := Away.mk (mnm_lt (a := a) (ds := ds) (N := N) hl HK.out)
  have HSL := Away.mk (bytes_lt hg (K := 400) (by omega))
  have HLT := Away.mk hn.lt
  obtain ⟨ls, hls⟩ : ∃ n, sg.length = n := ⟨_, rfl⟩
  obtain ⟨ss, sc, rfl, q1, q2⟩ := hs.shp hls
  have HLS := Away.mk hls
  rw [hls] at hsm
  clear hls
  have HN := Away.mk hn; have HE := Away.mk he; have HS := Away.mk hs; have HG := Away.mk hg; have HD := Away.mk hd; have HL := Away.mk hl
  clear hn he hd hs hl hg
  obtain ⟨er, her⟩ : ∃ er, merr a ds.length (kl N : Nat) = er := ⟨_, rfl⟩
  have HER := Away.mk her
  have hkl : kl N ≤ 1600 := by have := HK.out; omega
  by_cases h0 : er = 0
  · subst h0
    have hN0 := merr_pos her
    have HV : Away (vfy N E a ds sg = isof (mnm a ds N) (val 256 sg.reverse) N E) := ⟨by simp [vfy, her]⟩
    rw [HV.out]
    have HLen := Away.mk (mout_length her)
    have HMO : Away (mnm a ds N = val 256 (mout a ds (kl N : Nat)).reverse) := ⟨rfl⟩
    clear HV her
    generalize mnm a ds N = M at *
    obtain ⟨S, hS⟩ : ∃ S, val 256 sg.reverse = S := ⟨_, rfl⟩
    rw [hS] at HSL ⊢
    have HSV := Away.mk hS
    clear hS
    by_cases hSN : S < N
    · obtain ⟨X, hX⟩ : ∃ X, S ^ E % N = X := ⟨_, rfl⟩
      have HX := Away.mk hX
      have HI : Away (isof M S N E = decide (X = M)) := ⟨by simp [isof, hSN, hX]⟩
      rw [HI.out]
      have HCI := Away.mk (cmpI_lt hSN)
      have HXN : Away (X < N) := ⟨by rw [← hX]; exact Nat.mod_lt _ (Nat.pos_of_ne_zero hN0)⟩
      clear HI hX hSN
      go_enter Try.func16, Try.ntmps16
      go_wp2_with fail
      refine HLG.out.mono ?_
      rintro _ w1 ⟨rfl, hb1⟩
      replace HN := Away.mk (HN.out.below hb1); replace HE := Away.mk (HE.out.below hb1); replace HS := Away.mk (HS.out.below hb1); replace HD := Away.mk (HD.out.below hb1)
      have HB := Away.mk hb1
      clear hb1 HLG
      go_wp2_with fail
      refine (refmessage_any a _ ds (kl N : Nat) _ ⟨by omega, by omega⟩ HD.out (by omega)).mono ?_
      rw [HER.out]
      rintro _ w2 ⟨v2, rfl, hv2, hb2⟩
      have HV2 := Away.mk hv2
      replace HN := Away.mk (HN.out.below hb2); replace HE := Away.mk (HE.out.below hb2); replace HS := Away.mk (HS.out.below hb2)
      replace HB := Away.mk (HB.out.trans (hb2.mono HB.out.size))
      clear hv2 hb2 HD
      go_wp2_with fail
      refine (refread_any _ sg _ HS.out HG.out (by rw [HLS.out]; omega)).mono ?_
      rw [HSV.out]
      rintro _ w3 ⟨v3, rfl, hv3, hb3⟩
      have HV3 := Away.mk (hv3.num HSL.out)
      replace HN := Away.mk (HN.out.below hb3); replace HE := Away.mk (HE.out.below hb3); replace HV2 := Away.mk (HV2.out.below hb3)
      replace HB := Away.mk (HB.out.trans (hb3.mono HB.out.size))
      clear hv3 hb3 HS
      go_wp2_with fail
      refine (refcmp_n _ HV3.out HN.out (by omega) (by omega)).mono ?_
      rw [HCI.out]
      rintro _ w4 ⟨rfl, hb4⟩
      replace HN := Away.mk (HN.out.below hb4); replace HE := Away.mk (HE.out.below hb4); replace HV2 := Away.mk (HV2.out.below hb4); replace HV3 := Away.mk (HV3.out.below hb4)
      replace HB := Away.mk (HB.out.trans (hb4.mono HB.out.size))
      clear hb4 HCI
      go_wp2_with fail
      refine (refexp_n _ HV3.out HE.out HN.out (by omega) (by omega) (by omega) hN0).mono ?_
      rw [HX.out]
      rintro _ w5 ⟨v5, rfl, hv5, hb5⟩
      have HV5 := Away.mk (hv5.numLt HXN.out HLT.out)
      replace HV2 := Away.mk (HV2.out.below hb5)
      replace HB := Away.mk (HB.out.trans (hb5.mono HB.out.size))
      clear hv5 hb5 HN HE HV3
      go_wp2_with fail
      refine (refread_any _ _ _ HV2.out (mout_lo _ HL.out) (by rw [HLen.out]; simp; omega)).mono ?_
      rw [← HMO.out]
      rintro _ w6 ⟨v6, rfl, hv6, hb6⟩
      have HV6 := Away.mk (hv6.num HML.out)
      replace HV5 := Away.mk (HV5.out.below hb6)
      replace HB := Away.mk (HB.out.trans (hb6.mono HB.out.size))
      clear hv6 hb6 HV2
      go_wp2_with fail
      refine (refcmp_n _ HV5.out HV6.out (by omega) (by omega)).mono ?_
      rintro _ w7 ⟨rfl, hb7⟩
      replace HB := Away.mk (HB.out.trans (hb7.mono HB.out.size))
      clear hb7 HV5 HV6
      by_cases hx : X = M
      · have HXM := Away.mk hx
        rw [hx, cmpI_eq]
        clear hx
        go_wp2
        go_ret
        exact ⟨by simp [HXM.out], HB.out⟩
      · have d1 : ¬ (cmpI X M = 0) := by rw [cmpI_zero]; exact hx
        have HXM := Away.mk hx
        generalize cmpI X M = c at *
        clear hx
        go_wp2
        go_ret
        exact ⟨by simp [HXM.out, d1], HB.out⟩
    · have HI : Away (isof M S N E = false) := ⟨by simp [isof, hSN]⟩
      rw [HI.out]
      have d1 : 0 ≤ cmpI S N := by
        rcases Int.lt_or_le (cmpI S N) 0 with h1 | h1
        · exact absurd (cmpI_neg.1 h1) hSN
        · exact h1
      obtain ⟨c, hc⟩ : ∃ c, cmpI S N = c := ⟨_, rfl⟩
      rw [hc] at d1
      have HC := Away.mk hc
      clear HI hSN hc
      go_enter Try.func16, Try.ntmps16
      go_wp2_with fail
      refine HLG.out.mono ?_
      rintro _ w1 ⟨rfl, hb1⟩
      replace HN := Away.mk (HN.out.below hb1); replace HE := Away.mk (HE.out.below hb1); replace HS := Away.mk (HS.out.below hb1); replace HD := Away.mk (HD.out.below hb1)
      have HB := Away.mk hb1
      clear hb1 HLG
      go_wp2_with fail
      refine (refmessage_any a _ ds (kl N : Nat) _ ⟨by omega, by omega⟩ HD.out (by omega)).mono ?_
      rw [HER.out]
      rintro _ w2 ⟨v2, rfl, hv2, hb2⟩
      replace HN := Away.mk (HN.out.below hb2); replace HS := Away.mk (HS.out.below hb2)
      replace HB := Away.mk (HB.out.trans (hb2.mono HB.out.size))
      clear hv2 hb2 HD HE
      go_wp2_with fail
      refine (refread_any _ sg _ HS.out HG.out (by rw [HLS.out]; omega)).mono ?_
      rw [HSV.out]
      rintro _ w3 ⟨v3, rfl, hv3, hb3⟩
      have HV3 := Away.mk (hv3.num HSL.out)
      replace HN := Away.mk (HN.out.below hb3)
      replace HB := Away.mk (HB.out.trans (hb3.mono HB.out.size))
      clear hv3 hb3 HS
      go_wp2_with fail
      refine (refcmp_n _ HV3.out HN.out (by omega) (by omega)).mono ?_
      rw [HC.out]
      rintro _ w4 ⟨rfl, hb4⟩
      replace HB := Away.mk (HB.out.trans (hb4.mono HB.out.size))
      clear hb4 HC HN HV3
      go_wp2
      go_ret
      exact ⟨rfl, HB.out⟩
  · have HV : Away (vfy N E a ds sg = false) := ⟨by simp [vfy, her, h0]⟩
    rw [HV.out]
    clear HV her
    go_enter Try.func16, Try.ntmps16
    go_wp2_with fail
    refine HLG.out.mono ?_
    rintro _ w1 ⟨rfl, hb1⟩
    replace HD := Away.mk (HD.out.below hb1)
    have HB := Away.mk hb1
    clear hb1 HLG HN HE HS
    go_wp2_with fail
    refine (refmessage_any a _ ds (kl N : Nat) _ ⟨by omega, by omega⟩ HD.out (by omega)).mono ?_
    rw [HER.out]
    rintro _ w2 ⟨v2, rfl, hv2, hb2⟩
    replace HB := Away.mk (HB.out.trans (hb2.mono HB.out.size))
    clear hv2 hb2 HD
    go_wp2
    go_ret
    exact ⟨rfl, HB.out⟩

theorem be_self (S : Nat) : val 256 (be S (kl S)).reverse = S := be_more (kl_lt S) (Nat.le_refl _)
set_option maxHeartbeats 2000000 in
theorem refsign_n {vn ve vd vg : Value} {N E D K I J : Nat} (a : Int) (ds : List Nat) (w : World) (hn : Num w vn N K) (he : Num w ve E I) (hd : Num w vd D J) (hg : SlV w vg (C .u8 ds)) (hl : Lo 256 ds) (hm : ds.length ≤ 10000) (hK : K ≤ 400) (hI : I ≤ 400) (hJ : J ≤ 400) :
    Calls Try.prog 18 #[vn, ve, vd, .int .i64 a, vg] w fun e w' => ∃ v', e = .returned (.tuple #[v', .int .i64 (serr N E D a ds)]) ∧ SlV w' v' (C .u8 (sout N E D a ds)) ∧ Below w.heap.size w w' := by
  have HK := Away.mk (num_kl hn)
  have HLG := Away.mk (reflong_n w hn (by omega))
  have HML := Away.mk (mnm_lt (a := a) (ds := ds) (N := N) hl HK.out)
  have HLT := Away.mk hn.lt
  have HN := Away.mk hn; have HE := Away.mk he; have HD := Away.mk hd; have HG := Away.mk hg; have HL := Away.mk hl
  clear hn he hd hg hl
  obtain ⟨er, her⟩ : ∃ er, merr a ds.length (kl N : Nat) = er := ⟨_, rfl⟩
  have HER := Away.mk her
  have hkl : kl N ≤ 1600 := by have := HK.out; omega
  by_cases h0 : er = 0
  · subst h0
    have hN0 := merr_pos her
    have HS : Away (serr N E D a ds = if isof (mnm a ds N) (ssg N D a ds) N E = true then 0 else 18) := ⟨by simp [serr, her]⟩
    have HO : Away (sout N E D a ds = if isof (mnm a ds N) (ssg N D a ds) N E = true then be (ssg N D a ds) (kl (ssg N D a ds)) else []) := ⟨by
      unfold sout; rw [HS.out]; by_cases h : isof (mnm a ds N) (ssg N D a ds) N E = true <;> simp [h]⟩
    rw [HS.out, HO.out]
    obtain ⟨S, hS⟩ : ∃ S, ssg N D a ds = S := ⟨_, rfl⟩
    rw [hS]
    have HV : Away (vfy N E a ds (be S (kl S)) = isof (mnm a ds N) S N E) := ⟨by unfold vfy; rw [her, be_self]; simp⟩
    have HSX : Away (mnm a ds N ^ D % N = S) := ⟨hS⟩
    have HLen := Away.mk (mout_length her)
    have HMO : Away (mnm a ds N = val 256 (mout a ds (kl N : Nat)).reverse) := ⟨rfl⟩
    clear HS HO hS her
    generalize mnm a ds N = M at *
    have HSN : Away (S < N) := ⟨by rw [← HSX.out]; exact Nat.mod_lt _ (Nat.pos_of_ne_zero hN0)⟩
    have HSK : Away ((be S (kl S)).length ≤ 1600) := ⟨by rw [be_length]; have := kl_mono (Nat.le_of_lt HSN.out); omega⟩
    obtain ⟨ok, hok⟩ : ∃ ok, isof M S N E = ok := ⟨_, rfl⟩
    rw [hok] at HV ⊢
    clear hok
    cases ok with
    | true =>
      rw [if_pos rfl, if_pos rfl]
      go_enter Try.func18, Try.ntmps18
      go_wp2_with fail
      refine HLG.out.mono ?_
      rintro _ w1 ⟨rfl, hb1⟩
      replace HN := Away.mk (HN.out.below hb1); replace HE := Away.mk (HE.out.below hb1); replace HD := Away.mk (HD.out.below hb1); replace HG := Away.mk (HG.out.below hb1)
      have HB := Away.mk hb1
      clear hb1 HLG
      go_wp2_with fail
      refine (refmessage_any a _ ds (kl N : Nat) _ ⟨by omega, by omega⟩ HG.out (by omega)).mono ?_
      rw [HER.out]
      rintro _ w2 ⟨v2, rfl, hv2, hb2⟩
      have HV2 := Away.mk hv2
      replace HN := Away.mk (HN.out.below hb2); replace HE := Away.mk (HE.out.below hb2); replace HD := Away.mk (HD.out.below hb2); replace HG := Away.mk (HG.out.below hb2)
      replace HB := Away.mk (HB.out.trans (hb2.mono HB.out.size))
      clear hv2 hb2
      go_wp2_with fail
      refine (refread_any _ _ _ HV2.out (mout_lo _ HL.out) (by rw [HLen.out]; simp; omega)).mono ?_
      rw [← HMO.out]
      rintro _ w3 ⟨v3, rfl, hv3, hb3⟩
      have HV3 := Away.mk (hv3.num HML.out)
      replace HN := Away.mk (HN.out.below hb3); replace HE := Away.mk (HE.out.below hb3); replace HD := Away.mk (HD.out.below hb3); replace HG := Away.mk (HG.out.below hb3)
      replace HB := Away.mk (HB.out.trans (hb3.mono HB.out.size))
      clear hv3 hb3 HV2
      go_wp2_with fail
      refine (refexp_n _ HV3.out HD.out HN.out hK hJ hK hN0).mono ?_
      rw [HSX.out]
      rintro _ w5 ⟨v5, rfl, hv5, hb5⟩
      have HV5 := Away.mk (hv5.numLt HSN.out HLT.out)
      replace HN := Away.mk (HN.out.below hb5); replace HE := Away.mk (HE.out.below hb5); replace HG := Away.mk (HG.out.below hb5)
      replace HB := Away.mk (HB.out.trans (hb5.mono HB.out.size))
      clear hv5 hb5 HD HV3
      go_wp2_with fail
      refine (refbytes_n _ HV5.out (by omega)).mono ?_
      rintro _ w6 ⟨v6, rfl, hv6, hb6⟩
      have HV4 := Away.mk hv6
      replace HN := Away.mk (HN.out.below hb6); replace HE := Away.mk (HE.out.below hb6); replace HG := Away.mk (HG.out.below hb6)
      replace HB := Away.mk (HB.out.trans (hb6.mono HB.out.size))
      clear hv6 hb6 HV5
      go_wp2_with fail
      refine (refverify_n a ds _ _ HN.out HE.out HG.out HV4.out HL.out (be_lo _ _) hm HSK.out hK hI).mono ?_
      rw [HV.out]
      rintro _ w7 ⟨rfl, hb7⟩
      replace HV4 := Away.mk (HV4.out.below hb7)
      replace HB := Away.mk (HB.out.trans (hb7.mono HB.out.size))
      clear hb7 HN HE HG
      go_wp2
      go_ret2
      exact ⟨_, rfl, HV4.out, HB.out⟩
    | false =>
      rw [if_neg (by decide), if_neg (by decide)]
      go_enter Try.func18, Try.ntmps18
      go_wp2_with fail
      refine HLG.out.mono ?_
      rintro _ w1 ⟨rfl, hb1⟩
      replace HN := Away.mk (HN.out.below hb1); replace HE := Away.mk (HE.out.below hb1); replace HD := Away.mk (HD.out.below hb1); replace HG := Away.mk (HG.out.below hb1)
      have HB := Away.mk hb1
      clear hb1 HLG
      go_wp2_with fail
      refine (refmessage_any a _ ds (kl N : Nat) _ ⟨by omega, by omega⟩ HG.out (by omega)).mono ?_
      rw [HER.out]
      rintro _ w2 ⟨v2, rfl, hv2, hb2⟩
      have HV2 := Away.mk hv2
      replace HN := Away.mk (HN.out.below hb2); replace HE := Away.mk (HE.out.below hb2); replace HD := Away.mk (HD.out.below hb2); replace HG := Away.mk (HG.out.below hb2)
      replace HB := Away.mk (HB.out.trans (hb2.mono HB.out.size))
      clear hv2 hb2
      go_wp2_with fail
      refine (refread_any _ _ _ HV2.out (mout_lo _ HL.out) (by rw [HLen.out]; simp; omega)).mono ?_
      rw [← HMO.out]
      rintro _ w3 ⟨v3, rfl, hv3, hb3⟩
      have HV3 := Away.mk (hv3.num HML.out)
      replace HN := Away.mk (HN.out.below hb3); replace HE := Away.mk (HE.out.below hb3); replace HD := Away.mk (HD.out.below hb3); replace HG := Away.mk (HG.out.below hb3)
      replace HB := Away.mk (HB.out.trans (hb3.mono HB.out.size))
      clear hv3 hb3 HV2
      go_wp2_with fail
      refine (refexp_n _ HV3.out HD.out HN.out hK hJ hK hN0).mono ?_
      rw [HSX.out]
      rintro _ w5 ⟨v5, rfl, hv5, hb5⟩
      have HV5 := Away.mk (hv5.numLt HSN.out HLT.out)
      replace HN := Away.mk (HN.out.below hb5); replace HE := Away.mk (HE.out.below hb5); replace HG := Away.mk (HG.out.below hb5)
      replace HB := Away.mk (HB.out.trans (hb5.mono HB.out.size))
      clear hv5 hb5 HD HV3
      go_wp2_with fail
      refine (refbytes_n _ HV5.out (by omega)).mono ?_
      rintro _ w6 ⟨v6, rfl, hv6, hb6⟩
      have HV4 := Away.mk hv6
      replace HN := Away.mk (HN.out.below hb6); replace HE := Away.mk (HE.out.below hb6); replace HG := Away.mk (HG.out.below hb6)
      replace HB := Away.mk (HB.out.trans (hb6.mono HB.out.size))
      clear hv6 hb6 HV5
      go_wp2_with fail
      refine (refverify_n a ds _ _ HN.out HE.out HG.out HV4.out HL.out (be_lo _ _) hm HSK.out hK hI).mono ?_
      rw [HV.out]
      rintro _ w7 ⟨rfl, hb7⟩
      replace HV4 := Away.mk (HV4.out.below hb7)
      replace HB := Away.mk (HB.out.trans (hb7.mono HB.out.size))
      clear hb7 HN HE HG
      go_wp2
      go_ret2
      exact ⟨_, rfl, SlV.nil _, HB.out⟩
  · have HS : Away (serr N E D a ds = er) := ⟨by simp [serr, her, h0]⟩
    have HO : Away (sout N E D a ds = []) := ⟨by unfold sout; rw [HS.out, if_neg h0]⟩
    rw [HS.out, HO.out]
    clear HS HO her
    go_enter Try.func18, Try.ntmps18
    go_wp2_with fail
    refine HLG.out.mono ?_
    rintro _ w1 ⟨rfl, hb1⟩
    replace HG := Away.mk (HG.out.below hb1)
    have HB := Away.mk hb1
    clear hb1 HLG HN HE HD
    go_wp2_with fail
    refine (refmessage_any a _ ds (kl N : Nat) _ ⟨by omega, by omega⟩ HG.out (by omega)).mono ?_
    rw [HER.out]
    rintro _ w2 ⟨v2, rfl, hv2, hb2⟩
    replace HB := Away.mk (HB.out.trans (hb2.mono HB.out.size))
    clear hv2 hb2 HG
    go_wp2
    go_ret2
    exact ⟨_, rfl, SlV.nil _, HB.out⟩
end Go.Proofs.Ytbefchlgonlfiaa.R10
namespace Go.Proofs.Ytbefchlgonlfiaa.R10
open Go.RowKit
set_option linter.unusedVariables false
set_option maxRecDepth 10000

/-- Check's error. -/
def cerr (N E : Nat) : Int := if bl N < 2048 then 10 else if 8192 < bl N then 4 else if N % 2 = 0 ∨ E % 2 = 0 ∨ E < 3 ∨ 18446744073709551615 < E then 1 else 0
theorem cerr_weak {N E : Nat} (h : bl N < 2048) : cerr N E = 10 := by simp [cerr, h]
theorem cerr_limit {N E : Nat} (h : 8192 < bl N) : cerr N E = 4 := by unfold cerr; rw [if_neg (by omega), if_pos h]
theorem cerr_arg {N E : Nat} (h1 : ¬ bl N < 2048) (h2 : ¬ 8192 < bl N) (h : N % 2 = 0 ∨ E % 2 = 0 ∨ E < 3 ∨ 18446744073709551615 < E) : cerr N E = 1 := by unfold cerr; rw [if_neg h1, if_neg h2, if_pos h]
theorem cerr_ok {N E : Nat} (h1 : ¬ bl N < 2048) (h2 : ¬ 8192 < bl N) (h : ¬ (N % 2 = 0 ∨ E % 2 = 0 ∨ E < 3 ∨ 18446744073709551615 < E)) : cerr N E = 0 := by unfold cerr; rw [if_neg h1, if_neg h2, if_neg h]

theorem check_n {vn ve : Value} {N E K I : Nat} (w : World) (hn : Num w vn N K) (he : Num w ve E I) (hK : K ≤ 1000) (hI : I ≤ 1000) :
    Calls Try.prog 20 #[vn, ve] w fun e w' => e = .returned (.int .i64 (cerr N E)) ∧ Below w.heap.size w w' := by
  have HB0 := Away.mk (bits_n w hn hK)
  have HN := Away.mk hn; have HE := Away.mk he
  clear hn he
  obtain ⟨b, hb⟩ : ∃ b, bl N = b := ⟨_, rfl⟩
  rw [hb] at HB0
  by_cases h1 : b < 2048
  · rw [cerr_weak (by omega)]
    clear hb
    go_enter Try.func20, Try.ntmps20
    go_wp2_with fail
    refine HB0.out.mono ?_
    rintro _ w1 ⟨rfl, hb1⟩
    go_wp2
    go_ret
    exact ⟨rfl, hb1⟩
  by_cases h2 : 8192 < b
  · rw [cerr_limit (by omega)]
    clear hb
    go_enter Try.func20, Try.ntmps20
    go_wp2_with fail
    refine HB0.out.mono ?_
    rintro _ w1 ⟨rfl, hb1⟩
    go_wp2
    go_ret
    exact ⟨rfl, hb1⟩
  obtain ⟨pn, hpn⟩ : ∃ p, N % 2 = p := ⟨_, rfl⟩
  obtain ⟨pe, hpe⟩ : ∃ p, E % 2 = p := ⟨_, rfl⟩
  by_cases h3 : pn = 0
  · rw [cerr_arg (by omega) (by omega) (.inl (by omega))]
    have HP : Away (decide (N % 2 = 0) = true) := ⟨by rw [hpn]; exact decide_eq_true h3⟩
    clear hb hpn hpe
    go_enter Try.func20, Try.ntmps20
    go_wp2_with fail
    refine HB0.out.mono ?_
    rintro _ w1 ⟨rfl, hb1⟩
    replace HN := Away.mk (HN.out.below hb1)
    have HB := Away.mk hb1
    clear hb1
    go_wp2_with fail
    refine (even_n _ HN.out hK).mono ?_
    rw [HP.out]
    rintro _ w2 ⟨rfl, rfl⟩
    go_wp2
    go_ret
    exact ⟨rfl, HB.out⟩
  have HP : Away (decide (N % 2 = 0) = false) := ⟨by rw [hpn]; exact decide_eq_false h3⟩
  by_cases h4 : pe = 0
  · rw [cerr_arg (by omega) (by omega) (.inr (.inl (by omega)))]
    have HQ : Away (decide (E % 2 = 0) = true) := ⟨by rw [hpe]; exact decide_eq_true h4⟩
    clear hb hpn hpe
    go_enter Try.func20, Try.ntmps20
    go_wp2_with fail
    refine HB0.out.mono ?_
    rintro _ w1 ⟨rfl, hb1⟩
    replace HN := Away.mk (HN.out.below hb1); replace HE := Away.mk (HE.out.below hb1)
    have HB := Away.mk hb1
    clear hb1
    go_wp2_with fail
    refine (even_n _ HN.out hK).mono ?_
    rw [HP.out]
    rintro _ w2 ⟨rfl, rfl⟩
    go_wp2_with fail
    refine (even_n _ HE.out hI).mono ?_
    rw [HQ.out]
    rintro _ w2 ⟨rfl, rfl⟩
    go_wp2
    go_ret
    exact ⟨rfl, HB.out⟩
  have HQ : Away (decide (E % 2 = 0) = false) := ⟨by rw [hpe]; exact decide_eq_false h4⟩
  have HF3 : Away (∀ w, Calls Try.prog 42 #[.int .u64 3] w fun e w' => ∃ v', e = .returned v' ∧ RA w' v' 3 ∧ Below w.heap.size w w') := ⟨fun w => from_n 3 (by decide) w⟩
  have HFM : Away (∀ w, Calls Try.prog 42 #[.int .u64 18446744073709551615] w fun e w' => ∃ v', e = .returned v' ∧ RA w' v' 18446744073709551615 ∧ Below w.heap.size w w') := ⟨fun w => from_n 18446744073709551615 (by decide) w⟩
  by_cases h5 : E < 3
  · rw [cerr_arg (by omega) (by omega) (.inr (.inr (.inl h5)))]
    have HC5 := Away.mk (cmpI_lt h5)
    clear hb hpn hpe h5 HFM
    go_enter Try.func20, Try.ntmps20
    go_wp2_with fail
    refine HB0.out.mono ?_
    rintro _ w1 ⟨rfl, hb1⟩
    replace HN := Away.mk (HN.out.below hb1); replace HE := Away.mk (HE.out.below hb1)
    have HB := Away.mk hb1
    clear hb1
    go_wp2_with fail
    refine (even_n _ HN.out hK).mono ?_
    rw [HP.out]
    rintro _ w2 ⟨rfl, rfl⟩
    go_wp2_with fail
    refine (even_n _ HE.out hI).mono ?_
    rw [HQ.out]
    rintro _ w2 ⟨rfl, rfl⟩
    go_wp2_with fail
    refine (HF3.out _).mono ?_
    rintro _ w3 ⟨v3, rfl, hv3, hb3⟩
    have HV3 := Away.mk (hv3.num (K := 2) (by decide))
    replace HE := Away.mk (HE.out.below hb3)
    replace HB := Away.mk (HB.out.trans (hb3.mono HB.out.size))
    clear hv3 hb3
    go_wp2_with fail
    refine (cmp_n _ HE.out HV3.out hI (by decide)).mono ?_
    rw [HC5.out]
    rintro _ w4 ⟨rfl, hb4⟩
    replace HB := Away.mk (HB.out.trans (hb4.mono HB.out.size))
    clear hb4
    go_wp2
    go_ret
    exact ⟨rfl, HB.out⟩
  have h5' : ¬ (cmpI E 3 < 0) := fun h => h5 (cmpI_neg.1 h)
  obtain ⟨c5, hc5⟩ : ∃ c, cmpI E 3 = c := ⟨_, rfl⟩
  have HC5 := Away.mk hc5
  rw [hc5] at h5'
  obtain ⟨c6, hc6⟩ : ∃ c, cmpI E 18446744073709551615 = c := ⟨_, rfl⟩
  have HC6 := Away.mk hc6
  obtain ⟨R, hR, hR0⟩ : ∃ R : Int, cerr N E = R ∧ ((0 < c6 ∧ R = 1) ∨ (¬ 0 < c6 ∧ R = 0)) := by
    refine ⟨_, rfl, ?_⟩
    by_cases h6 : 18446744073709551615 < E
    · exact .inl ⟨by rw [← hc6]; exact cmpI_pos.2 h6, cerr_arg (by omega) (by omega) (.inr (.inr (.inr h6)))⟩
    · exact .inr ⟨fun h => h6 (cmpI_pos.1 (by rw [hc6]; exact h)), cerr_ok (by omega) (by omega) (by omega)⟩
  rw [hR]
  clear hb hpn hpe h5 hc5 hc6 hR
  go_enter Try.func20, Try.ntmps20
  go_wp2_with fail
  refine HB0.out.mono ?_
  rintro _ w1 ⟨rfl, hb1⟩
  replace HN := Away.mk (HN.out.below hb1); replace HE := Away.mk (HE.out.below hb1)
  have HB := Away.mk hb1
  clear hb1
  go_wp2_with fail
  refine (even_n _ HN.out hK).mono ?_
  rw [HP.out]
  rintro _ w2 ⟨rfl, rfl⟩
  go_wp2_with fail
  refine (even_n _ HE.out hI).mono ?_
  rw [HQ.out]
  rintro _ w2 ⟨rfl, rfl⟩
  go_wp2_with fail
  refine (HF3.out _).mono ?_
  rintro _ w3 ⟨v3, rfl, hv3, hb3⟩
  have HV3 := Away.mk (hv3.num (K := 2) (by decide))
  replace HE := Away.mk (HE.out.below hb3)
  replace HB := Away.mk (HB.out.trans (hb3.mono HB.out.size))
  clear hv3 hb3
  go_wp2_with fail
  refine (cmp_n _ HE.out HV3.out hI (by decide)).mono ?_
  rw [HC5.out]
  rintro _ w4 ⟨rfl, hb4⟩
  replace HE := Away.mk (HE.out.below hb4)
  replace HB := Away.mk (HB.out.trans (hb4.mono HB.out.size))
  clear hb4
  go_wp2_with fail
  refine (HFM.out _).mono ?_
  rintro _ w5 ⟨v5, rfl, hv5, hb5⟩
  have HV5 := Away.mk (hv5.num (K := 2) (by decide))
  replace HE := Away.mk (HE.out.below hb5)
  replace HB := Away.mk (HB.out.trans (hb5.mono HB.out.size))
  clear hv5 hb5
  go_wp2_with fail
  refine (cmp_n _ HE.out HV5.out hI (by decide)).mono ?_
  rw [HC6.out]
  rintro _ w6 ⟨rfl, hb6⟩
  replace HB := Away.mk (HB.out.trans (hb6.mono HB.out.size))
  clear hb6
  rcases hR0 with ⟨h6, rfl⟩ | ⟨h6, rfl⟩
  · go_wp2
    go_ret
    exact ⟨rfl, HB.out⟩
  · go_wp2
    go_ret
    exact ⟨rfl, HB.out⟩

theorem refbit0_n {va : Value} {A K : Nat} (w : World) (ha : Num w va A K) (hK : K ≤ 1000) :
    Calls Try.prog 44 #[va, .int .i64 0] w fun e w' => e = .returned (.int .i64 ((A % 2 : Nat) : Int)) ∧ w = w' := by
  obtain ⟨xs, h1, h2, h3, h4⟩ := ha
  by_cases h0 : xs.length = 0
  · obtain rfl : xs = [] := List.eq_nil_of_length_eq_zero h0
    subst h3
    exact refbit_none va [] 0 w h1 (by simp) (.inr (by simp)) (by decide)
  · have := refbit_any va xs 0 w h1 h2 (by omega) (by omega) (by omega)
    rw [← h3, parity]
    simpa using this

/-- Whether an exponent may not be, as the document tells it. -/
theorem bad_e {E : Nat} (h : E % 2 ≠ 0) : (E < 3 ∨ 18446744073709551615 < E) ↔ (bl E < 2 ∨ 64 < bl E) := by
  have e1 : bl E < 2 ↔ E < 3 := by
    rw [show bl E < 2 ↔ bl E ≤ 1 by omega, bl_le]
    omega
  have e2 : 64 < bl E ↔ 18446744073709551615 < E := by
    have h := bl_le E 64
    omega
  rw [e1, e2]

theorem refcheck_n {vn ve : Value} {N E K I : Nat} (w : World) (hn : Num w vn N K) (he : Num w ve E I) (hK : K ≤ 1000) (hI : I ≤ 1000) :
    Calls Try.prog 21 #[vn, ve] w fun e w' => e = .returned (.int .i64 (cerr N E)) ∧ Below w.heap.size w w' := by
  have HB0 := Away.mk (refbits_n w hn hK)
  have HN := Away.mk hn; have HE := Away.mk he
  clear hn he
  obtain ⟨b, hb⟩ : ∃ b, bl N = b := ⟨_, rfl⟩
  rw [hb] at HB0
  by_cases h1 : b < 2048
  · rw [cerr_weak (by omega)]
    clear hb
    go_enter Try.func21, Try.ntmps21
    go_wp2_with fail
    refine HB0.out.mono ?_
    rintro _ w1 ⟨rfl, hb1⟩
    go_wp2
    go_ret
    exact ⟨rfl, hb1⟩
  by_cases h2 : 8192 < b
  · rw [cerr_limit (by omega)]
    clear hb
    go_enter Try.func21, Try.ntmps21
    go_wp2_with fail
    refine HB0.out.mono ?_
    rintro _ w1 ⟨rfl, hb1⟩
    go_wp2
    go_ret
    exact ⟨rfl, hb1⟩
  obtain ⟨pn, hpn⟩ : ∃ p, N % 2 = p := ⟨_, rfl⟩
  obtain ⟨pe, hpe⟩ : ∃ p, E % 2 = p := ⟨_, rfl⟩
  have HPN := Away.mk hpn; have HPE := Away.mk hpe
  by_cases h3 : pn = 0
  · rw [cerr_arg (by omega) (by omega) (.inl (by omega))]
    subst h3
    clear hb hpn hpe
    go_enter Try.func21, Try.ntmps21
    go_wp2_with fail
    refine HB0.out.mono ?_
    rintro _ w1 ⟨rfl, hb1⟩
    replace HN := Away.mk (HN.out.below hb1)
    have HB := Away.mk hb1
    clear hb1
    go_wp2_with fail
    refine (refbit0_n _ HN.out hK).mono ?_
    rw [HPN.out]
    rintro _ w2 ⟨rfl, rfl⟩
    go_wp2
    go_ret
    exact ⟨rfl, HB.out⟩
  have h3' : ¬ ((pn : Int) = 0) := by omega
  by_cases h4 : pe = 0
  · rw [cerr_arg (by omega) (by omega) (.inr (.inl (by omega)))]
    subst h4
    clear hb hpn hpe
    go_enter Try.func21, Try.ntmps21
    go_wp2_with fail
    refine HB0.out.mono ?_
    rintro _ w1 ⟨rfl, hb1⟩
    replace HN := Away.mk (HN.out.below hb1); replace HE := Away.mk (HE.out.below hb1)
    have HB := Away.mk hb1
    clear hb1
    go_wp2_with fail
    refine (refbit0_n _ HN.out hK).mono ?_
    rw [HPN.out]
    rintro _ w2 ⟨rfl, rfl⟩
    go_wp2_with fail
    refine (refbit0_n _ HE.out hI).mono ?_
    rw [HPE.out]
    rintro _ w2 ⟨rfl, rfl⟩
    go_wp2
    go_ret
    exact ⟨rfl, HB.out⟩
  have h4' : ¬ ((pe : Int) = 0) := by omega
  have hbad := bad_e (E := E) (by omega)
  obtain ⟨be, hbe⟩ : ∃ b, bl E = b := ⟨_, rfl⟩
  have HBE := Away.mk hbe
  rw [hbe] at hbad
  obtain ⟨R, hR, hR0⟩ : ∃ R : Int, cerr N E = R ∧ (((be : Int) < 2 ∧ R = 1) ∨ (¬ (be : Int) < 2 ∧ 64 < (be : Int) ∧ R = 1) ∨ (¬ (be : Int) < 2 ∧ ¬ 64 < (be : Int) ∧ R = 0)) := by
    refine ⟨_, rfl, ?_⟩
    by_cases h5 : be < 2
    · exact .inl ⟨by omega, cerr_arg (by omega) (by omega) (by have := hbad.2 (.inl h5); omega)⟩
    · by_cases h6 : 64 < be
      · exact .inr (.inl ⟨by omega, by omega, cerr_arg (by omega) (by omega) (by have := hbad.2 (.inr h6); omega)⟩)
      · exact .inr (.inr ⟨by omega, by omega, cerr_ok (by omega) (by omega) (by
          intro h
          rcases h with h | h | h | h
          · omega
          · omega
          · have := hbad.1 (.inl h); omega
          · have := hbad.1 (.inr h); omega)⟩)
  rw [hR]
  clear hb hpn hpe hR hbad hbe h3 h4
  go_enter Try.func21, Try.ntmps21
  go_wp2_with fail
  refine HB0.out.mono ?_
  rintro _ w1 ⟨rfl, hb1⟩
  replace HN := Away.mk (HN.out.below hb1); replace HE := Away.mk (HE.out.below hb1)
  have HB := Away.mk hb1
  clear hb1
  go_wp2_with fail
  refine (refbit0_n _ HN.out hK).mono ?_
  rw [HPN.out]
  rintro _ w2 ⟨rfl, rfl⟩
  go_wp2_with fail
  refine (refbit0_n _ HE.out hI).mono ?_
  rw [HPE.out]
  rintro _ w2 ⟨rfl, rfl⟩
  go_wp2_with fail
  refine (refbits_n _ HE.out hI).mono ?_
  rw [HBE.out]
  rintro _ w3 ⟨rfl, hb3⟩
  replace HE := Away.mk (HE.out.below hb3)
  replace HB := Away.mk (HB.out.trans (hb3.mono HB.out.size))
  clear hb3
  rcases hR0 with ⟨h6, rfl⟩ | ⟨h5, h6, rfl⟩ | ⟨h5, h6, rfl⟩
  · go_wp2
    go_ret
    exact ⟨rfl, HB.out⟩
  · go_wp2_with fail
    refine (refbits_n _ HE.out hI).mono ?_
    rw [HBE.out]
    rintro _ w4 ⟨rfl, hb4⟩
    replace HB := Away.mk (HB.out.trans (hb4.mono HB.out.size))
    clear hb4
    go_wp2
    go_ret
    exact ⟨rfl, HB.out⟩
  · go_wp2_with fail
    refine (refbits_n _ HE.out hI).mono ?_
    rw [HBE.out]
    rintro _ w4 ⟨rfl, hb4⟩
    replace HB := Away.mk (HB.out.trans (hb4.mono HB.out.size))
    clear hb4
    have q1 : ((pn : Int) == 0) = false := by simpa using h3'
    have q2 : ((pe : Int) == 0) = false := by simpa using h4'
    have q3 : decide ((be : Int) < 2) = false := decide_eq_false (by omega)
    have q4 : decide (64 < (be : Int)) = false := decide_eq_false (by omega)
    go_wp2
    go_ret
    exact ⟨rfl, HB.out⟩

theorem two_lits (w : World) : Num ((w.alloc (.cells #[.int .u32 7] 45)).alloc (.cells #[.int .u32 3] 45)) (.slice (some ⟨w.heap.size, 0, none⟩) 1 1) 7 1 ∧
    Num ((w.alloc (.cells #[.int .u32 7] 45)).alloc (.cells #[.int .u32 3] 45)) (.slice (some ⟨w.heap.size + 1, 0, none⟩) 1 1) 3 1 ∧ Below w.heap.size w ((w.alloc (.cells #[.int .u32 7] 45)).alloc (.cells #[.int .u32 3] 45)) := by
  have h2 := num_lit (w.alloc (.cells #[.int .u32 7] 45)) 3 (by decide) (by decide)
  rw [World.size_alloc] at h2
  exact ⟨(num_lit w 7 (by decide) (by decide)).below (below_lit _ (.int .u32 3)), h2, ((Below.refl _ w).alloc (Nat.le_refl _) _).alloc (by simp) _⟩

set_option maxHeartbeats 2000000 in
theorem alive10_true (w : World) : Calls Try.prog 9 #[] w fun e w' => e = .returned (.bool true) ∧ Below w.heap.size w w' := by
  have HC7 := Away.mk (show cerr 7 3 = 10 from cerr_weak (by decide))
  go_enter Try.func9, Try.ntmps9
  go_wp2_with fail
  refine (prefix_any 8 _).mono ?_
  rw [show perr 8 = 0 from rfl]
  rintro _ w1 ⟨v1, rfl, hv1, hb1⟩
  have HV := Away.mk hv1; have HB := Away.mk hb1
  clear hv1 hb1
  go_wp2_with fail
  refine (prefix_any 3 _).mono ?_
  rw [show perr 3 = 9 from rfl]
  rintro _ w2 ⟨v2, rfl, hv2, hb2⟩
  have hv := HV.out.below hb2
  replace HB := Away.mk (HB.out.trans (hb2.mono HB.out.size))
  clear HV hv2 hb2
  obtain ⟨sa, sc, rfl, q1, q2⟩ := hv.shp (n := 19) rfl
  obtain ⟨b, off, rfl, hbl, hcx⟩ := hv.cells (by decide)
  have c1 : w2.cell? ⟨b, off + 1, none⟩ = some (.int .u8 49) := hcx 1 _ rfl
  have c18 : w2.cell? ⟨b, off + 18, none⟩ = some (.int .u8 32) := hcx 18 _ rfl
  obtain ⟨hl7, hl3, hbb⟩ := two_lits w2
  have H7 := Away.mk hl7; have H3 := Away.mk hl3
  replace HB := Away.mk (HB.out.trans (hbb.mono HB.out.size))
  clear hv hcx hl7 hl3 hbb
  go_wp2_with fail
  refine (check_n _ H7.out H3.out (by decide) (by decide)).mono ?_
  rw [HC7.out]
  rintro _ w4 ⟨rfl, hb4⟩
  replace HB := Away.mk (HB.out.trans (hb4.mono HB.out.size))
  clear hb4
  go_wp2
  go_ret
  exact ⟨rfl, HB.out⟩
end Go.Proofs.Ytbefchlgonlfiaa.R10
namespace Go.Proofs.Ytbefchlgonlfiaa.R10
open Go.RowKit Go.ChangeShapes Go.WideShapes
set_option linter.unusedVariables false
set_option maxRecDepth 10000

theorem strR {w : World} {v : Value} {xs : List Nat} (h : SlV w v (C .u8 xs)) : (convert 22 9 v).run Try.prog w = .ok (.string (strOfNums (xs.map Int.ofNat))) w :=
  run_string_C w 22 9 5 Try.underlying22 Try.underlying5 Try.underlying9 v xs h
theorem str_inj {xs ys : List Nat} (hx : Lo 256 xs) (hy : Lo 256 ys) (h : strOfNums (xs.map Int.ofNat) = strOfNums (ys.map Int.ofNat)) : xs = ys := by
  have := strOfNums_inj (xs := xs.map Int.ofNat) (ys := ys.map Int.ofNat) (by intro n hn; obtain ⟨m, hm, rfl⟩ := List.mem_map.1 hn; have := hx m hm; simp; omega) (by intro n hn; obtain ⟨m, hm, rfl⟩ := List.mem_map.1 hn; have := hy m hm; simp; omega) h
  exact List.map_inj_right (fun a b h => Int.ofNat.inj h) |>.1 this

theorem cells32 : Try.prog.cellsOf 32 = 4 := by kernel_rfl
theorem cells30 : Try.prog.cellsOf 30 = 1 := by kernel_rfl
theorem cells3 : Try.prog.cellsOf 3 = 1 := by kernel_rfl

/-- A slice of words in a cell. -/
theorem row_of_cell {H : Type} {enc : TypeId × Value → H} {W : World} {base : Nat} {held : Bool} {fuel : Nat} {c : Value} {y : DataW H × List MemPlace} (h : DataW.trod enc Try.prog W base (fun _ => true) held fuel 30 [c] = some y) :
    ∃ a len cap zs, c = .slice a len cap ∧ IsRow .u32 W a len cap zs := by
  rcases open_ints Try.underlying30 Try.underlying45 (by kernel_rfl) h with ⟨hcs, _⟩ | ⟨x, l, c', zs, hcs, _, hl, hm, hz, _, hcell, hwz⟩
  · simp at hcs
    exact ⟨none, 0, 0, [], hcs, .inl ⟨rfl, rfl, rfl, rfl⟩⟩
  · simp at hcs
    exact ⟨_, l, c', zs, hcs, .inr ⟨_, rfl, hl, hm, by simpa using hz, hcell, hwz⟩⟩

/-- A key among the arguments, opened. -/
theorem open_keyed {H : Type} {enc : TypeId × Value → H} {W : World} {base : Nat} {held : Bool} {r : Reach} {b0 : Nat} {v : Value} {d : DataW H} {ps : List MemPlace}
    (hval : Value.okWide Try.prog W r b0 32 v) (h : DataW.Trod enc Try.prog W base (fun _ => true) held 32 v d ps) :
    ∃ a0 l0 c0 z0 a1 l1 c1 z1 a2 l2 c2 z2 alg, v = .agg #[.slice a0 l0 c0, .slice a1 l1 c1, .slice a2 l2 c2, .int .i64 alg] ∧ IsRow .u32 W a0 l0 c0 z0 ∧ IsRow .u32 W a1 l1 c1 z1 ∧ IsRow .u32 W a2 l2 c2 z2 ∧ (Lit.int .i64 alg).wf = true := by
  obtain ⟨cs, rfl, hsz⟩ := okWide_struct Try.underlying32 hval
  rw [cells32] at hsz
  obtain ⟨x0, x1, x2, x3, rfl⟩ : ∃ x0 x1 x2 x3, cs = #[x0, x1, x2, x3] := by
    match cs, hsz with
    | ⟨[x0, x1, x2, x3]⟩, _ => exact ⟨x0, x1, x2, x3, rfl⟩
  obtain ⟨fuel, hf⟩ := h
  obtain ⟨xs, n, _, _, _, hlen, hg⟩ := DataW.trod_struct Try.underlying32 hf
  have t0 := hg 0 _ rfl
  have t1 := hg 1 _ rfl
  have t2 := hg 2 _ rfl
  have t3 := hg 3 _ rfl
  simp [Value.cells, cells30, cells3] at t0 t1 t2 t3 hlen
  match xs, hlen with
  | [y0, y1, y2, y3], _ =>
    obtain ⟨a0, l0, c0, z0, rfl, w0⟩ := row_of_cell (t0.trans rfl)
    obtain ⟨a1, l1, c1, z1, rfl, w1⟩ := row_of_cell (t1.trans rfl)
    obtain ⟨a2, l2, c2, z2, rfl, w2⟩ := row_of_cell (t2.trans rfl)
    obtain ⟨k, e3, _, hw⟩ := DataW.trod_int Try.underlying3 (t3.trans rfl)
    simp at e3
    subst e3
    exact ⟨a0, l0, c0, z0, a1, l1, c1, z1, a2, l2, c2, z2, k, rfl, w0, w1, w2, hw⟩

/-- The key's cells in the call's own block. -/
abbrev kcells (s0 s1 s2 : Value) (alg : Int) : Array Value := #[s0, s1, s2, .int .i64 alg]

theorem small_any (a0 : Option Addr) (l0 c0 : Nat) (a1 : Option Addr) (l1 c1 : Nat) (a2 : Option Addr) (l2 c2 : Nat) (alg : Int) (w : World) :
    Calls Try.prog 14 #[.agg #[.slice a0 l0 c0, .slice a1 l1 c1, .slice a2 l2 c2, .int .i64 alg]] w fun e w' => e = .returned (.bool (decide (l0 ≤ 24) && decide (l1 ≤ 2) && decide (l2 ≤ 24))) ∧ Below w.heap.size w w' := by
  have hB : Below w.heap.size w (w.alloc (.cells #[.slice a0 l0 c0, .slice a1 l1 c1, .slice a2 l2 c2, .int .i64 alg] 32)) := (Below.refl _ _).alloc (Nat.le_refl _) _
  by_cases h0 : l0 ≤ 24
  · by_cases h1 : l1 ≤ 2
    · by_cases h2 : l2 ≤ 24
      · have g0 : (l0 : Int) ≤ 24 := by omega
        have g1 : (l1 : Int) ≤ 2 := by omega
        have g2 : (l2 : Int) ≤ 24 := by omega
        rw [decide_eq_true h0, decide_eq_true h1, decide_eq_true h2]
        go_enter Try.func14, Try.ntmps14
        go_wp2
        go_ret
        exact ⟨rfl, hB⟩
      · have g0 : (l0 : Int) ≤ 24 := by omega
        have g1 : (l1 : Int) ≤ 2 := by omega
        have g2 : ¬ (l2 : Int) ≤ 24 := by omega
        rw [decide_eq_true h0, decide_eq_true h1, decide_eq_false h2]
        go_enter Try.func14, Try.ntmps14
        go_wp2
        go_ret
        exact ⟨rfl, hB⟩
    · have g0 : (l0 : Int) ≤ 24 := by omega
      have g1 : ¬ (l1 : Int) ≤ 2 := by omega
      rw [decide_eq_true h0, decide_eq_false h1]
      go_enter Try.func14, Try.ntmps14
      go_wp2
      go_ret
      exact ⟨rfl, hB⟩
  · have g0 : ¬ (l0 : Int) ≤ 24 := by omega
    rw [decide_eq_false h0]
    go_enter Try.func14, Try.ntmps14
    go_wp2
    go_ret
    exact ⟨rfl, hB⟩

theorem siz_inj {a b : Int} (ha : Kn a) (hb : Kn b) (h : siz a = siz b) : a = b := by
  rcases ha with rfl | rfl | rfl | rfl | rfl <;> rcases hb with rfl | rfl | rfl | rfl | rfl <;> first | rfl | (exact absurd h (by decide))
theorem serr_zero {N E D : Nat} {a : Int} {ds : List Nat} (h : serr N E D a ds = 0) : merr a ds.length (kl N : Nat) = 0 ∧ isof (mnm a ds N) (ssg N D a ds) N E = true := by
  unfold serr at h
  by_cases h0 : merr a ds.length (kl N : Nat) = 0
  · rw [if_pos h0] at h
    refine ⟨h0, ?_⟩
    by_cases h1 : isof (mnm a ds N) (ssg N D a ds) N E = true
    · exact h1
    · rw [if_neg h1] at h; cases h
  · rw [if_neg h0] at h; exact absurd h h0
theorem sout_val {N E D : Nat} {a : Int} {ds : List Nat} (h : serr N E D a ds = 0) : val 256 (sout N E D a ds).reverse = ssg N D a ds := by
  unfold sout; rw [if_pos h, be_self]
theorem sout_lo (N E D : Nat) (a : Int) (ds : List Nat) : Lo 256 (sout N E D a ds) := by
  unfold sout; split
  · exact be_lo _ _
  · exact Lo.nil _
theorem sout_length (N E D : Nat) (a : Int) (ds : List Nat) : (sout N E D a ds).length ≤ kl N := by
  by_cases h : serr N E D a ds = 0
  · have h1 := (serr_zero h).2
    unfold sout; rw [if_pos h, be_length]
    simp only [isof, Bool.and_eq_true, decide_eq_true_eq] at h1
    exact kl_mono (Nat.le_of_lt h1.1)
  · unfold sout; rw [if_neg h]; exact Nat.zero_le _
theorem sout_none {N E D : Nat} {a : Int} {ds : List Nat} (h : serr N E D a ds ≠ 0) : sout N E D a ds = [] := by unfold sout; rw [if_neg h]
theorem val_nought (xs : List Nat) : val 256 (0 :: xs).reverse = val 256 xs.reverse := by
  simp [val_append, val]
theorem vfy_sout {N E D : Nat} {a : Int} {ds : List Nat} (h : serr N E D a ds = 0) : vfy N E a ds (sout N E D a ds) = true := by
  obtain ⟨h1, h2⟩ := serr_zero h
  unfold vfy; rw [h1, sout_val h, h2]; rfl
theorem vfy_nought {N E D : Nat} {a : Int} {ds : List Nat} (h : serr N E D a ds = 0) : vfy N E a ds (0 :: sout N E D a ds) = true := by
  obtain ⟨h1, h2⟩ := serr_zero h
  unfold vfy; rw [h1, val_nought, sout_val h, h2]; rfl
theorem vfy_other {N E D : Nat} {a : Int} {ds es : List Nat} (hd : Lo 256 ds) (he : Lo 256 es) (h : serr N E D a ds = 0) : vfy N E a es (sout N E D a ds) = decide (es = ds) := by
  by_cases heq : es = ds
  · subst heq; rw [vfy_sout h]; simp
  · rw [decide_eq_false heq]
    obtain ⟨h1, h2⟩ := serr_zero h
    unfold vfy
    by_cases h3 : merr a es.length (kl N : Nat) = 0
    · obtain ⟨k1, s1, _, r1⟩ := merr_zero h1
      obtain ⟨_, s2, _, _⟩ := merr_zero h3
      have hne : mnm a ds N ≠ mnm a es N := by
        intro hc
        unfold mnm at hc
        rw [mout_ok h1, mout_ok h3, Int.toNat_natCast] at hc
        exact heq (mtxt_inj hd he (by omega) (by omega) hc).symm
      rw [sout_val h]
      simp only [isof, Bool.and_eq_true, decide_eq_true_eq] at h2
      have : ¬ (ssg N D a ds ^ E % N = mnm a es N) := by rw [h2.2]; exact hne
      simp [isof, this]
    · simp [h3]
theorem vfy_alg {N E D : Nat} {a b : Int} {ds : List Nat} (hb : b ≠ a) (h : serr N E D a ds = 0) : vfy N E b ds (sout N E D a ds) = false := by
  obtain ⟨h1, h2⟩ := serr_zero h
  obtain ⟨k1, s1, _, _⟩ := merr_zero h1
  have h3 : merr b ds.length (kl N : Nat) ≠ 0 := by
    intro hc
    obtain ⟨k2, s2, _, _⟩ := merr_zero hc
    exact hb (siz_inj k2 k1 (by omega))
  simp [vfy, h3]
theorem vfy_above {N E S : Nat} {a : Int} {ds sg : List Nat} (h : val 256 sg.reverse = S + N) : vfy N E a ds sg = false := by
  unfold vfy isof; rw [h]
  have : ¬ (S + N < N) := by omega
  simp [this]
end Go.Proofs.Ytbefchlgonlfiaa.R10
