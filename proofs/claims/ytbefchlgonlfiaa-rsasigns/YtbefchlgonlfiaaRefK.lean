/-
  Contracts of the document's Reduce, Mul, Exp and Gcd of layer 5, over this seat's translation. Conditions: at most 400 words.
-/
import Derived.Test.YtbefchlgonlfiaaModB
import Derived.Test.YtbefchlgonlfiaaRefJ
namespace Go.Proofs.Ytbefchlgonlfiaa
open Go.RowKit
set_option linter.unusedVariables false

theorem refmul_n {va vb : Value} {A B K L : Nat} (w : World) (ha : Num w va A K) (hb : Num w vb B L) (hK : K ≤ 1000) (hL : L ≤ 1000) :
    Calls Try.prog 64 #[va, vb] w fun e w' => ∃ v', e = .returned v' ∧ RA w' v' (A * B) ∧ Below w.heap.size w w' := by
  obtain ⟨xs, h1, h2, h3, h4⟩ := ha
  obtain ⟨ys, g1, g2, g3, g4⟩ := hb
  subst h3; subst g3
  exact refmul_any va vb xs ys w h1 g1 h2 g2 (by omega) (by omega)
theorem refdiv_n {va vb : Value} {A B K L : Nat} (w : World) (ha : Num w va A K) (hb : Num w vb B L) (hK : K ≤ 1000) (hL : L ≤ 1000) (h0 : B ≠ 0) :
    Calls Try.prog 63 #[va, vb] w fun e w' => ∃ v1 v2, e = .returned (.tuple #[v1, v2, .int .i64 0]) ∧ RA w' v1 (A / B) ∧ RA w' v2 (A % B) ∧ Below w.heap.size w w' := by
  obtain ⟨xs, h1, h2, h3, h4⟩ := ha
  obtain ⟨ys, g1, g2, g3, g4⟩ := hb
  subst h3; subst g3
  exact refdiv_any va vb xs ys w h1 g1 h2 g2 (by omega) (by omega) h0
theorem refdiv_n0 {va vb : Value} {A K L : Nat} (w : World) (ha : Num w va A K) (hb : Num w vb 0 L) (hK : K ≤ 1000) (hL : L ≤ 1000) :
    Calls Try.prog 63 #[va, vb] w fun e w' => e = .returned (.tuple #[.slice none 0 0, .slice none 0 0, .int .i64 1]) ∧ Below w.heap.size w w' := by
  obtain ⟨xs, h1, h2, h3, h4⟩ := ha
  obtain ⟨ys, g1, g2, g3, g4⟩ := hb
  exact refdiv_zero va vb xs ys w h1 g1 h2 g2 (by omega) (by omega) g3
theorem refbits_n {va : Value} {A K : Nat} (w : World) (ha : Num w va A K) (hK : K ≤ 1000) :
    Calls Try.prog 43 #[va] w fun e w' => e = .returned (.int .i64 (bl A : Nat)) ∧ Below w.heap.size w w' := by
  obtain ⟨xs, h1, h2, h3, h4⟩ := ha
  subst h3
  exact refbits_any va xs w h1 h2 (by omega)
theorem refbit_n {va : Value} {A K : Nat} (i : Nat) (w : World) (ha : Num w va A K) (hK : K ≤ 1000) (hi : i < bl A) :
    Calls Try.prog 44 #[va, .int .i64 (i : Int)] w fun e w' => e = .returned (.int .i64 ((A / 2 ^ i % 2 : Nat) : Int)) ∧ w = w' := by
  obtain ⟨xs, h1, h2, h3, h4⟩ := ha
  have hl : bl A ≤ 32 * xs.length := by
    refine (bl_le _ _).2 ?_
    have := val_lt (B := W32) (by decide) h2
    rwa [h3, pow32] at this
  have := refbit_any va xs (i : Int) w h1 h2 (by omega) (by omega) (by omega)
  rw [show ((i : Int) / 32).toNat = i / 32 by omega, show ((i : Int) % 32).toNat = i % 32 by omega, bit_val h2, h3] at this
  exact this
theorem refreduce_n {va vm : Value} {A M K L : Nat} (w : World) (ha : Num w va A K) (hm : Num w vm M L) (hK : K ≤ 1000) (hL : L ≤ 1000) (h0 : M ≠ 0) :
    Calls Try.prog 52 #[va, vm] w fun e w' => ∃ v', e = .returned (.tuple #[v', .int .i64 0]) ∧ RA w' v' (A % M) ∧ Below w.heap.size w w' := by
  have HD := Away.mk (refdiv_n w ha hm hK hL h0)
  clear ha hm
  go_enter Try.func52, Try.ntmps52
  go_wp2_with fail
  refine HD.out.mono ?_
  rintro _ w1 ⟨v1, v2, rfl, hq, hr, hb⟩
  have HQ := Away.mk hr; have HB := Away.mk hb
  clear hq hr hb HD
  go_wp2
  go_ret2
  exact ⟨_, rfl, HQ.out, HB.out⟩
theorem refreduce_0 {va vm : Value} {A K L : Nat} (w : World) (ha : Num w va A K) (hm : Num w vm 0 L) (hK : K ≤ 1000) (hL : L ≤ 1000) :
    Calls Try.prog 52 #[va, vm] w fun e w' => e = .returned (.tuple #[.slice none 0 0, .int .i64 1]) ∧ Below w.heap.size w w' := by
  have HD := Away.mk (refdiv_n0 w ha hm hK hL)
  clear ha hm
  go_enter Try.func52, Try.ntmps52
  go_wp2_with fail
  refine HD.out.mono ?_
  rintro _ w1 ⟨rfl, hb⟩
  have HB := Away.mk hb
  clear hb HD
  go_wp2
  go_ret2
  exact ⟨rfl, HB.out⟩
theorem refmulm_n {va vb vm : Value} {A B M K L J : Nat} (w : World) (ha : Num w va A K) (hb : Num w vb B L) (hm : Num w vm M J) (hK : K ≤ 400) (hL : L ≤ 400) (hJ : J ≤ 400) (h0 : M ≠ 0) :
    Calls Try.prog 53 #[va, vb, vm] w fun e w' => ∃ v', e = .returned (.tuple #[v', .int .i64 0]) ∧ RA w' v' (A * B % M) ∧ Below w.heap.size w w' := by
  have hfit := mul_fits (B := W32) ha.lt hb.lt
  have HD := Away.mk (refmul_n w ha hb (by omega) (by omega)); have HM := Away.mk hm; have HF := Away.mk hfit
  clear ha hb hm hfit
  go_enter Try.func53, Try.ntmps53
  go_wp2_with fail
  refine HD.out.mono ?_
  rintro _ w1 ⟨v1, rfl, h1, hb1⟩
  have HR := Away.mk (refreduce_n w1 (h1.num HF.out) (HM.out.below hb1) (by omega) (by omega) h0); have HB := Away.mk hb1
  clear h1 hb1 HD HM
  go_wp2_with fail
  refine HR.out.mono ?_
  rintro _ w2 ⟨v2, rfl, h2, hb2⟩
  have H2 := Away.mk h2; have HB2 := Away.mk (HB.out.trans (hb2.mono HB.out.size))
  clear h2 hb2 HR
  go_wp2
  go_ret2
  exact ⟨_, rfl, H2.out, HB2.out⟩
theorem refmulm_0 {va vb vm : Value} {A B K L J : Nat} (w : World) (ha : Num w va A K) (hb : Num w vb B L) (hm : Num w vm 0 J) (hK : K ≤ 400) (hL : L ≤ 400) (hJ : J ≤ 400) :
    Calls Try.prog 53 #[va, vb, vm] w fun e w' => e = .returned (.tuple #[.slice none 0 0, .int .i64 1]) ∧ Below w.heap.size w w' := by
  have hfit := mul_fits (B := W32) ha.lt hb.lt
  have HD := Away.mk (refmul_n w ha hb (by omega) (by omega)); have HM := Away.mk hm; have HF := Away.mk hfit
  clear ha hb hm hfit
  go_enter Try.func53, Try.ntmps53
  go_wp2_with fail
  refine HD.out.mono ?_
  rintro _ w1 ⟨v1, rfl, h1, hb1⟩
  have HR := Away.mk (refreduce_0 w1 (h1.num HF.out) (HM.out.below hb1) (by omega) (by omega)); have HB := Away.mk hb1
  clear h1 hb1 HD HM
  go_wp2_with fail
  refine HR.out.mono ?_
  rintro _ w2 ⟨rfl, hb2⟩
  have HB2 := Away.mk (HB.out.trans (hb2.mono HB.out.size))
  clear hb2 HR
  go_wp2
  go_ret2
  exact ⟨rfl, HB2.out⟩

set_option maxHeartbeats 4000000 in
theorem refexp_n {va vn vm : Value} {A N M K L J : Nat} (w : World) (ha : Num w va A K) (hn : Num w vn N L) (hm : Num w vm M J) (hK : K ≤ 400) (hL : L ≤ 400) (hJ : J ≤ 400) (h0 : M ≠ 0) :
    Calls Try.prog 35 #[va, vn, vm] w fun e w' => ∃ v', e = .returned (.tuple #[v', .int .i64 0]) ∧ RA w' v' (A ^ N % M) ∧ Below w.heap.size w w' := by
  have hbl := hn.bl
  have HL := Away.mk hm.lt
  have HA := Away.mk ha; have HN := Away.mk hn; have HM := Away.mk hm
  have hM0 : 0 < M := Nat.pos_of_ne_zero h0
  have H1 := Away.mk ((ra_lit w 1 (by decide) (by decide)).num (K := 1) (by decide))
  have HB : Away (Below w.heap.size w (w.alloc (.cells (C .u32 [1]).toArray 45))) := ⟨(Below.refl _ _).alloc (Nat.le_refl _) _⟩
  replace HA := Away.mk (HA.out.below HB.out); replace HN := Away.mk (HN.out.below HB.out); replace HM := Away.mk (HM.out.below HB.out)
  simp only [C, List.map_cons, List.map_nil] at H1 HB HA HN HM
  clear ha hn hm
  go_enter Try.func35, Try.ntmps35
  go_wp2_with fail
  refine (refreduce_n _ H1.out HM.out (by omega) (by omega) h0).mono ?_
  rintro _ w2 ⟨v2, rfl, h2, hb⟩
  replace HA := Away.mk (HA.out.below hb); replace HN := Away.mk (HN.out.below hb); replace HM := Away.mk (HM.out.below hb)
  replace HB := Away.mk (HB.out.trans (hb.mono HB.out.size)); have H2 := Away.mk h2
  clear h2 hb H1
  go_wp2_with fail
  refine (refbits_n w2 HN.out (by omega)).mono ?_
  rintro _ w4 ⟨rfl, hb⟩
  replace HA := Away.mk (HA.out.below hb); replace HN := Away.mk (HN.out.below hb); replace HM := Away.mk (HM.out.below hb); replace H2 := Away.mk (H2.out.below hb)
  replace HB := Away.mk (HB.out.trans (hb.mono HB.out.size))
  clear hb
  have hsh : N / 2 ^ bl N = 0 := bl_shift
  have HI : Away (RA w4 v2 (A ^ (N / 2 ^ (bl N - 0)) % M)) := by
    have := H2.out
    rw [Nat.sub_zero, hsh, Nat.pow_zero]
    exact ⟨this⟩
  obtain ⟨c, hc⟩ : ∃ c, bl N = c := ⟨_, rfl⟩
  rw [hc] at HI hbl ⊢
  have HC := Away.mk hc
  have hcm : c ≤ 12800 := by omega
  clear hsh hc H2 hbl
  go_wp2
  go_loopw [8, 10] (fun ov iv wr => ∃ k : Nat, k ≤ c ∧ iv = .int .i64 ((c : Int) - 1 - (k : Int)) ∧ RA wr ov (A ^ (N / 2 ^ (c - k)) % M) ∧ Below w4.heap.size w4 wr) (fun _ i _ => (intOf i + 1).toNat)
  case atStart => exact ⟨0, Nat.zero_le _, by go_num, HI.out, Below.refl _ _⟩
  case round =>
    obtain ⟨k, hk, rfl, hr, hb⟩ := hrel
    by_cases hlt : k < c
    · have HO := Away.mk (hr.numLt (Nat.mod_lt _ hM0) HL.out)
      have HS := Away.mk (pow_step (A := A) (N := N) (M := M) hlt)
      have HW := Away.mk hb
      clear hr hb HI
      have e1 : (c : Int) - 1 - (k : Int) = ((c - 1 - k : Nat) : Int) := by omega
      rw [e1]
      obtain ⟨j, hj⟩ : ∃ j, c - 1 - k = j := ⟨_, rfl⟩
      rw [hj] at HS ⊢
      have hjc : j < c := by omega
      have ej : (j : Int) - 1 = (c : Int) - 1 - ((k + 1 : Nat) : Int) := by omega
      have HJ := Away.mk ej
      clear e1 ej
      go_wp2_with fail
      refine (refmulm_n wr HO.out HO.out (HM.out.below HW.out) hJ hJ hJ h0).mono ?_
      rintro _ w5 ⟨v5, rfl, h5, hb⟩
      replace HW := Away.mk (HW.out.trans (hb.mono HW.out.size)); have H5 := Away.mk h5
      clear h5 hb HO
      go_wp2_with fail
      refine (refbit_n j w5 (HN.out.below HW.out) (by omega) (by rw [HC.out]; omega)).mono ?_
      rintro _ w6 ⟨rfl, rfl⟩
      by_cases h1 : N / 2 ^ j % 2 = 1
      · rw [h1]
        have S := HS.out
        rw [if_pos h1] at S
        have HS' := Away.mk S
        clear S HS h1
        go_wp2_with fail
        refine (refmulm_n w5 (H5.out.numLt (Nat.mod_lt _ hM0) HL.out) (HA.out.below HW.out) (HM.out.below HW.out) hJ hK hJ h0).mono ?_
        rw [HS'.out]
        rintro _ w7 ⟨v7, rfl, h7, hb⟩
        replace HW := Away.mk (HW.out.trans (hb.mono HW.out.size)); have H7 := Away.mk h7
        clear h7 hb H5
        go_wp2
        go_roundw
        case rel => exact ⟨k + 1, by omega, by rw [← HJ.out], H7.out, HW.out⟩
        case measure => simp [intOf]
      · have h2 : N / 2 ^ j % 2 = 0 := by omega
        have S := HS.out
        rw [if_neg h1, Nat.mul_one, Nat.mod_mod] at S
        rw [h2]
        rw [S] at H5
        clear S HS h1 h2
        go_wp2
        go_roundw
        case rel => exact ⟨k + 1, by omega, by rw [← HJ.out], H5.out, HW.out⟩
        case measure => simp [intOf]
    · obtain rfl : k = c := by omega
      rw [Nat.sub_self, Nat.pow_zero, Nat.div_one] at hr
      have HR := Away.mk hr; have HW := Away.mk hb
      clear hr hb HI
      have e1 : (k : Int) - 1 - (k : Int) = -1 := by omega
      rw [e1]
      clear e1
      go_wp2
      go_ret2
      exact ⟨_, rfl, HR.out, HB.out.trans (HW.out.mono HB.out.size)⟩
theorem refexp_0 {va vn vm : Value} {J : Nat} (w : World) (hm : Num w vm 0 J) (hJ : J ≤ 400) :
    Calls Try.prog 35 #[va, vn, vm] w fun e w' => e = .returned (.tuple #[.slice none 0 0, .int .i64 1]) ∧ Below w.heap.size w w' := by
  have HM := Away.mk hm
  have H1 := Away.mk ((ra_lit w 1 (by decide) (by decide)).num (K := 1) (by decide))
  have HB : Away (Below w.heap.size w (w.alloc (.cells (C .u32 [1]).toArray 45))) := ⟨(Below.refl _ _).alloc (Nat.le_refl _) _⟩
  replace HM := Away.mk (HM.out.below HB.out)
  simp only [C, List.map_cons, List.map_nil] at H1 HB HM
  clear hm
  go_enter Try.func35, Try.ntmps35
  go_wp2_with fail
  refine (refreduce_0 _ H1.out HM.out (by omega) (by omega)).mono ?_
  rintro _ w2 ⟨rfl, hb⟩
  replace HB := Away.mk (HB.out.trans (hb.mono HB.out.size))
  clear hb H1 HM
  go_wp2
  go_ret2
  exact ⟨rfl, HB.out⟩
end Go.Proofs.Ytbefchlgonlfiaa
