/-
  Contracts of modexp's factor and Inverse, over this seat's translation. Conditions: at most 400 words.
-/
import Derived.Test.YtdikjmodjaodfaaModB
namespace Go.Proofs.Ytdikjmodjaodfaa
open Go.RowKit
set_option linter.unusedVariables false

set_option maxHeartbeats 4000000 in
theorem factor_n {va vm : Value} {A M L : Nat} (w : World) (ha : Num w va A L) (hm : Num w vm M L) (hL : L ≤ 400) (h0 : M ≠ 0) (hlt : A < M) :
    Calls Try.prog 33 #[va, vm] w fun e w' => ∃ (dv tv : Value) (b : Bool) (T : Nat), e = .returned (.tuple #[dv, tv, .bool b]) ∧ Num w' dv (Nat.gcd A M) L ∧ Num w' tv T L ∧ T ≤ M ∧ (∃ c : Int, (Nat.gcd A M : Int) - sg b * T * A = M * c) ∧ Below w.heap.size w w' := by
  have hM0 : 0 < M := Nat.pos_of_ne_zero h0
  have HL := Away.mk hm.lt
  have HA := Away.mk ha; have HM := Away.mk hm; have HF := Away.mk (Fac.start (A := A) hM0)
  clear ha hm
  go_enter Try.func33, Try.ntmps33
  go_wp2_with fail
  refine (from_n 1 (by decide) w).mono ?_
  rintro _ w1 ⟨v1, rfl, h1, hb⟩
  replace HA := Away.mk (HA.out.below hb); replace HM := Away.mk (HM.out.below hb)
  have HB := Away.mk hb; have H1 := Away.mk (h1.num (K := L) (by have := HL.out; omega))
  clear h1 hb
  go_wp2
  go_loopg [0, 4, 5, 6, 7] A (fun k av dv tv bv nv wr => ∃ (d t n : Nat) (b : Bool), bv = .bool b ∧ Num wr av k L ∧ Num wr dv d L ∧ Num wr tv t L ∧ Num wr nv n L ∧ Fac M A k d t n b ∧ Below w1.heap.size w1 wr)
  case atStart => exact ⟨M, 0, 1, true, rfl, HA.out, HM.out, Num.nil _ _, H1.out, HF.out, Below.refl _ _⟩
  case round =>
    obtain ⟨d, t, n, b, rfl, h1, h2, h3, h4, h5, hb⟩ := hrel
    have H2 := Away.mk h2; have H3 := Away.mk h3; have H4 := Away.mk h4; have H5 := Away.mk h5; have HW := Away.mk hb; have HK := Away.mk h1
    clear h1 h2 h3 h4 h5 hb HA HM HF H1
    go_wp2_with fail
    refine (bits_n wr HK.out (by omega)).mono ?_
    rintro _ w2 ⟨rfl, hb⟩
    replace H2 := Away.mk (H2.out.below hb); replace H3 := Away.mk (H3.out.below hb); replace H4 := Away.mk (H4.out.below hb); replace HK := Away.mk (HK.out.below hb); replace HW := Away.mk (HW.out.trans (hb.mono HW.out.size))
    clear hb
    by_cases hz : gk = 0
    · subst hz
      have e0 : bl 0 = 0 := rfl
      rw [e0]
      clear e0
      go_wp2
      go_ret3
      have h5 := H5.out
      have hd := h5.stop
      refine ⟨_, _, _, t, rfl, by rw [← hd]; exact H2.out, H3.out, h5.top, by rw [← hd]; exact h5.one, HB.out.trans (HW.out.mono HB.out.size)⟩
    · have hp : bl gk ≠ 0 := fun e => hz (by have := (bl_le gk 0).1 (by omega); omega)
      have d0 : decide ((0 : Int) < (bl gk : Int)) = true := by simp; omega
      have HF := Away.mk (H5.out.step hz)
      have Hlt := Away.mk (Nat.mod_lt d (Nat.pos_of_ne_zero hz))
      have HR := Away.mk (Nat.lt_trans Hlt.out HK.out.lt)
      have HQ := Away.mk (Nat.lt_of_le_of_lt (Nat.div_le_self d gk) H2.out.lt)
      have HT := Away.mk (Nat.lt_of_le_of_lt HF.out.nTop HL.out)
      go_wp2_with fail
      refine (div_n w2 H2.out HK.out (by omega) (by omega) hz).mono ?_
      rintro _ w3 ⟨v3, v4, rfl, g1, g2, hb⟩
      replace H3 := Away.mk (H3.out.below hb); replace H4 := Away.mk (H4.out.below hb); replace HK := Away.mk (HK.out.below hb); replace HW := Away.mk (HW.out.trans (hb.mono HW.out.size))
      have G1 := Away.mk (g1.num HQ.out); have G2 := Away.mk (g2.num HR.out)
      clear hb g1 g2 H2
      go_wp2_with fail
      refine (mul_n w3 G1.out H4.out (by omega) (by omega)).mono ?_
      rintro _ w4 ⟨v5, rfl, g3, hb⟩
      have G3 := Away.mk (g3.num (mul_fits (B := W32) G1.out.lt H4.out.lt))
      replace H3 := Away.mk (H3.out.below hb); replace H4 := Away.mk (H4.out.below hb); replace HK := Away.mk (HK.out.below hb); replace G2 := Away.mk (G2.out.below hb); replace HW := Away.mk (HW.out.trans (hb.mono HW.out.size))
      clear hb g3 G1
      go_wp2_with fail
      refine (add_n w4 H3.out G3.out (by omega) (by omega)).mono ?_
      rintro _ w5 ⟨v6, rfl, g4, hb⟩
      have G4 := Away.mk (g4.num HT.out)
      replace H4 := Away.mk (H4.out.below hb); replace HK := Away.mk (HK.out.below hb); replace G2 := Away.mk (G2.out.below hb); replace HW := Away.mk (HW.out.trans (hb.mono HW.out.size))
      clear hb g4 H3 G3
      go_wp2
      go_roundg (d % gk)
      case measure => exact Hlt.out
      case rel => exact ⟨gk, n, t + d / gk * n, !b, rfl, G2.out, HK.out, H4.out, G4.out, HF.out, HW.out⟩

/-- What the answer is: below the modulus, and times the number it leaves 1. -/
def Inv (A M X : Nat) : Prop := X < M ∧ A * X % M = 1 % M

set_option maxHeartbeats 4000000 in
theorem inverse_ok {va vm : Value} {A M L : Nat} (w : World) (ha : Num w va A L) (hm : Num w vm M L) (hL : L ≤ 400) (h0 : M ≠ 0) (hg : Nat.gcd A M = 1) :
    Calls Try.prog 18 #[va, vm] w fun e w' => ∃ v' X, e = .returned (.tuple #[v', .int .i64 0]) ∧ RA w' v' X ∧ Inv A M X ∧ Below w.heap.size w w' := by
  have hM0 : 0 < M := Nat.pos_of_ne_zero h0
  have HL := Away.mk hm.lt
  have HA := Away.mk ha; have HM := Away.mk hm; have HG := Away.mk hg
  clear ha hm hg
  go_enter Try.func18, Try.ntmps18
  go_wp2_with fail
  refine (reduce_n w HA.out HM.out (by omega) (by omega) h0).mono ?_
  rintro _ w1 ⟨v1, rfl, h1, hb⟩
  replace HM := Away.mk (HM.out.below hb)
  have HB := Away.mk hb; have H1 := Away.mk (h1.numLt (Nat.mod_lt A hM0) HL.out)
  clear h1 hb HA
  go_wp2_with fail
  refine (factor_n w1 H1.out HM.out hL h0 (Nat.mod_lt A hM0)).mono ?_
  rw [gcd_mod, HG.out]
  rintro _ w2 ⟨dv, tv, b, T, rfl, g1, g2, g3, g4, hb⟩
  have G1 := Away.mk g1; have G2 := Away.mk g2; have G3 := Away.mk g3; have G4 := Away.mk g4
  replace HM := Away.mk (HM.out.below hb); replace HB := Away.mk (HB.out.trans (hb.mono HB.out.size))
  clear g1 g2 g3 g4 hb H1
  go_wp2_with fail
  refine (from_n 1 (by decide) w2).mono ?_
  rintro _ w3 ⟨v3, rfl, h3, hb⟩
  have H3 := Away.mk (h3.num (K := 1) (by decide))
  replace HM := Away.mk (HM.out.below hb); replace G1 := Away.mk (G1.out.below hb); replace G2 := Away.mk (G2.out.below hb); replace HB := Away.mk (HB.out.trans (hb.mono HB.out.size))
  clear h3 hb
  go_wp2_with fail
  refine (cmp_n w3 G1.out H3.out (by omega) (by omega)).mono ?_
  rw [show cmpI 1 1 = 0 by decide]
  rintro _ w4 ⟨rfl, hb⟩
  replace HM := Away.mk (HM.out.below hb); replace G2 := Away.mk (G2.out.below hb); replace HB := Away.mk (HB.out.trans (hb.mono HB.out.size))
  clear hb G1 H3
  cases b
  · go_wp2_with fail
    refine (reduce_n w4 G2.out HM.out (by omega) (by omega) h0).mono ?_
    rintro _ w5 ⟨v5, rfl, h5, hb⟩
    have H5 := Away.mk h5
    replace HB := Away.mk (HB.out.trans (hb.mono HB.out.size))
    clear h5 hb G2 HM
    go_wp2
    go_ret2
    obtain ⟨c, hc⟩ := G4.out
    exact ⟨_, _, rfl, H5.out, ⟨Nat.mod_lt _ hM0, inverse_up hc⟩, HB.out⟩
  · go_wp2_with fail
    refine (sub_n w4 HM.out G2.out (by omega) (by omega)).mono ?_
    rw [errLt_neg (Nat.not_lt.2 G3.out)]
    rintro _ w5 ⟨v5, rfl, h5, hb⟩
    have H5 := Away.mk (h5.num (Nat.lt_of_le_of_lt (Nat.sub_le M T) HL.out))
    replace HM := Away.mk (HM.out.below hb); replace HB := Away.mk (HB.out.trans (hb.mono HB.out.size))
    clear h5 hb G2
    go_wp2_with fail
    refine (reduce_n w5 H5.out HM.out (by omega) (by omega) h0).mono ?_
    rintro _ w6 ⟨v6, rfl, h6, hb⟩
    have H6 := Away.mk h6
    replace HB := Away.mk (HB.out.trans (hb.mono HB.out.size))
    clear h6 hb H5 HM
    go_wp2
    go_ret2
    obtain ⟨c, hc⟩ := G4.out
    exact ⟨_, _, rfl, H6.out, ⟨Nat.mod_lt _ hM0, inverse_down G3.out hc⟩, HB.out⟩
theorem cmp_one {N : Nat} (h : N ≠ 1) : (cmpI N 1 != 0) = true := by unfold cmpI; split <;> simp_all <;> omega
set_option maxHeartbeats 4000000 in
theorem inverse_none {va vm : Value} {A M L : Nat} (w : World) (ha : Num w va A L) (hm : Num w vm M L) (hL : L ≤ 400) (h0 : M ≠ 0) (hg : Nat.gcd A M ≠ 1) :
    Calls Try.prog 18 #[va, vm] w fun e w' => e = .returned (.tuple #[.slice none 0 0, .int .i64 5]) ∧ Below w.heap.size w w' := by
  have hM0 : 0 < M := Nat.pos_of_ne_zero h0
  have HL := Away.mk hm.lt
  have HA := Away.mk ha; have HM := Away.mk hm
  have d0 := cmp_one hg
  clear ha hm
  go_enter Try.func18, Try.ntmps18
  go_wp2_with fail
  refine (reduce_n w HA.out HM.out (by omega) (by omega) h0).mono ?_
  rintro _ w1 ⟨v1, rfl, h1, hb⟩
  replace HM := Away.mk (HM.out.below hb)
  have HB := Away.mk hb; have H1 := Away.mk (h1.numLt (Nat.mod_lt A hM0) HL.out)
  clear h1 hb HA
  go_wp2_with fail
  refine (factor_n w1 H1.out HM.out hL h0 (Nat.mod_lt A hM0)).mono ?_
  rw [gcd_mod]
  rintro _ w2 ⟨dv, tv, b, T, rfl, g1, g2, g3, g4, hb⟩
  have G1 := Away.mk g1
  replace HB := Away.mk (HB.out.trans (hb.mono HB.out.size))
  clear g1 g2 g3 g4 hb H1 HM
  go_wp2_with fail
  refine (from_n 1 (by decide) w2).mono ?_
  rintro _ w3 ⟨v3, rfl, h3, hb⟩
  have H3 := Away.mk (h3.num (K := 1) (by decide))
  replace G1 := Away.mk (G1.out.below hb); replace HB := Away.mk (HB.out.trans (hb.mono HB.out.size))
  clear h3 hb
  go_wp2_with fail
  refine (cmp_n w3 G1.out H3.out (by omega) (by omega)).mono ?_
  rintro _ w4 ⟨rfl, hb⟩
  replace HB := Away.mk (HB.out.trans (hb.mono HB.out.size))
  clear hb G1 H3
  go_wp2
  go_ret2
  exact ⟨rfl, HB.out⟩
theorem inverse_0 {va vm : Value} {A L : Nat} (w : World) (ha : Num w va A L) (hm : Num w vm 0 L) (hL : L ≤ 400) :
    Calls Try.prog 18 #[va, vm] w fun e w' => e = .returned (.tuple #[.slice none 0 0, .int .i64 1]) ∧ Below w.heap.size w w' := by
  have HD := Away.mk (reduce_0 w ha hm (by omega) (by omega))
  clear ha hm
  go_enter Try.func18, Try.ntmps18
  go_wp2_with fail
  refine HD.out.mono ?_
  rintro _ w1 ⟨rfl, hb⟩
  have HB := Away.mk hb
  clear hb HD
  go_wp2
  go_ret2
  exact ⟨rfl, HB.out⟩
end Go.Proofs.Ytdikjmodjaodfaa
