/-
  Contracts of modexp's Exp, factor and Inverse, over this seat's translation. Conditions: at most 400 words.
-/
import Derived.Test.YtbefchlgonlfiaaModA
namespace Go.Proofs.Ytbefchlgonlfiaa
open Go.RowKit
set_option linter.unusedVariables false

theorem RA.numLt {w : World} {v : Value} {N M L : Nat} (h : RA w v N) (hN : N < M) (hM : M < W32 ^ L) : Num w v N L := h.num (Nat.lt_trans hN hM)

set_option maxHeartbeats 4000000 in
theorem exp_n {va vn vm : Value} {A N M K L J : Nat} (w : World) (ha : Num w va A K) (hn : Num w vn N L) (hm : Num w vm M J) (hK : K ≤ 400) (hL : L ≤ 400) (hJ : J ≤ 400) (h0 : M ≠ 0) :
    Calls Try.prog 36 #[va, vn, vm] w fun e w' => ∃ v', e = .returned (.tuple #[v', .int .i64 0]) ∧ RA w' v' (A ^ N % M) ∧ Below w.heap.size w w' := by
  have hbl := hn.bl
  have HL := Away.mk hm.lt
  have HA := Away.mk ha; have HN := Away.mk hn; have HM := Away.mk hm
  have hM0 : 0 < M := Nat.pos_of_ne_zero h0
  clear ha hn hm
  go_enter Try.func36, Try.ntmps36
  go_wp2_with fail
  refine (from_n 1 (by decide) w).mono ?_
  rintro _ w1 ⟨v1, rfl, h1, hb⟩
  replace HA := Away.mk (HA.out.below hb); replace HN := Away.mk (HN.out.below hb); replace HM := Away.mk (HM.out.below hb)
  have HB := Away.mk hb; have H1 := Away.mk (h1.num (K := 1) (by decide))
  clear h1 hb
  go_wp2_with fail
  refine (reduce_n w1 H1.out HM.out (by omega) (by omega) h0).mono ?_
  rintro _ w2 ⟨v2, rfl, h2, hb⟩
  replace HA := Away.mk (HA.out.below hb); replace HN := Away.mk (HN.out.below hb); replace HM := Away.mk (HM.out.below hb)
  replace HB := Away.mk (HB.out.trans (hb.mono HB.out.size)); have H2 := Away.mk h2
  clear h2 hb H1
  go_wp2_with fail
  refine (reduce_n w2 HA.out HM.out (by omega) (by omega) h0).mono ?_
  rintro _ w3 ⟨v3, rfl, h3, hb⟩
  replace HN := Away.mk (HN.out.below hb); replace HM := Away.mk (HM.out.below hb); replace H2 := Away.mk (H2.out.below hb)
  replace HB := Away.mk (HB.out.trans (hb.mono HB.out.size)); have H3 := Away.mk (h3.numLt (Nat.mod_lt A hM0) HL.out)
  clear h3 hb HA
  go_wp2_with fail
  refine (bits_n w3 HN.out (by omega)).mono ?_
  rintro _ w4 ⟨rfl, hb⟩
  replace HN := Away.mk (HN.out.below hb); replace HM := Away.mk (HM.out.below hb); replace H2 := Away.mk (H2.out.below hb); replace H3 := Away.mk (H3.out.below hb)
  replace HB := Away.mk (HB.out.trans (hb.mono HB.out.size))
  clear hb
  have hsh : N / 2 ^ bl N = 0 := bl_shift
  have HI : Away (RA w4 v2 ((A % M) ^ (N / 2 ^ (bl N - 0)) % M)) := by
    have := H2.out
    rw [Nat.sub_zero, hsh, Nat.pow_zero]
    exact ⟨this⟩
  obtain ⟨c, hc⟩ : ∃ c, bl N = c := ⟨_, rfl⟩
  rw [hc] at HI hbl ⊢
  have HC := Away.mk hc
  have hcm : c ≤ 12800 := by omega
  clear hsh hc H2 hbl
  obtain ⟨g, hg⟩ : ∃ g, w.heap.size = g := ⟨_, rfl⟩
  go_wp2
  go_loopw [8, 30] (fun ov iv wr => ∃ k : Nat, k ≤ c ∧ iv = .int .i64 (k : Int) ∧ RA wr ov ((A % M) ^ (N / 2 ^ (c - k)) % M) ∧ Below w4.heap.size w4 wr) (fun _ i _ => c - (intOf i).toNat)
  case atStart => exact ⟨0, Nat.zero_le _, rfl, HI.out, Below.refl _ _⟩
  case round =>
    obtain ⟨k, hk, rfl, hr, hb⟩ := hrel
    by_cases hlt : k < c
    · have HO := Away.mk (hr.numLt (Nat.mod_lt _ hM0) HL.out)
      have HS := Away.mk (pow_step (A := A % M) (N := N) (M := M) hlt)
      have HW := Away.mk hb
      clear hr hb HI
      have e1 : (c : Int) - 1 - (k : Int) = ((c - 1 - k : Nat) : Int) := by omega
      go_wp2_with fail
      refine (mulm_n wr HO.out HO.out (HM.out.below HW.out) hJ hJ hJ h0).mono ?_
      rintro _ w5 ⟨v5, rfl, h5, hb⟩
      replace HW := Away.mk (HW.out.trans (hb.mono HW.out.size)); have H5 := Away.mk h5
      clear h5 hb HO
      go_wp2_with fail
      refine (bit_n (c - 1 - k) w5 (HN.out.below HW.out) (by omega) (by rw [HC.out]; omega)).mono ?_
      rintro _ w6 ⟨rfl, rfl⟩
      by_cases h1 : N / 2 ^ (c - 1 - k) % 2 = 1
      · rw [h1]
        have S := HS.out
        rw [if_pos h1] at S
        have HS' := Away.mk S
        clear S HS h1
        go_wp2_with fail
        refine (mulm_n w5 (H5.out.numLt (Nat.mod_lt _ hM0) HL.out) (H3.out.below HW.out) (HM.out.below HW.out) hJ hJ hJ h0).mono ?_
        rw [HS'.out]
        rintro _ w7 ⟨v7, rfl, h7, hb⟩
        replace HW := Away.mk (HW.out.trans (hb.mono HW.out.size)); have H7 := Away.mk h7
        clear h7 hb H5
        go_wp2
        go_roundw
        case rel => exact ⟨k + 1, by omega, by go_num, H7.out, HW.out⟩
        case measure => simp [intOf]; omega
      · have h2 : N / 2 ^ (c - 1 - k) % 2 = 0 := by omega
        have S := HS.out
        rw [if_neg h1, Nat.mul_one, Nat.mod_mod] at S
        rw [h2]
        rw [S] at H5
        clear S HS h1 h2
        go_wp2
        go_roundw
        case rel => exact ⟨k + 1, by omega, by go_num, H5.out, HW.out⟩
        case measure => simp [intOf]; omega
    · obtain rfl : k = c := by omega
      rw [Nat.sub_self, Nat.pow_zero, Nat.div_one, ← Nat.pow_mod] at hr
      have HR := Away.mk hr; have HW := Away.mk hb
      clear hr hb HI
      go_wp2
      go_ret2
      exact ⟨_, rfl, HR.out, HB.out.trans (HW.out.mono HB.out.size)⟩
theorem exp_0 {va vn vm : Value} {A N K L J : Nat} (w : World) (hm : Num w vm 0 J) (hJ : J ≤ 400) :
    Calls Try.prog 36 #[va, vn, vm] w fun e w' => e = .returned (.tuple #[.slice none 0 0, .int .i64 1]) ∧ Below w.heap.size w w' := by
  have HM := Away.mk hm
  clear hm
  go_enter Try.func36, Try.ntmps36
  go_wp2_with fail
  refine (from_n 1 (by decide) w).mono ?_
  rintro _ w1 ⟨v1, rfl, h1, hb⟩
  replace HM := Away.mk (HM.out.below hb)
  have HB := Away.mk hb; have H1 := Away.mk (h1.num (K := 1) (by decide))
  clear h1 hb
  go_wp2_with fail
  refine (reduce_0 w1 H1.out HM.out (by omega) (by omega)).mono ?_
  rintro _ w2 ⟨rfl, hb⟩
  replace HB := Away.mk (HB.out.trans (hb.mono HB.out.size))
  clear hb H1 HM
  go_wp2
  go_ret2
  exact ⟨rfl, HB.out⟩
end Go.Proofs.Ytbefchlgonlfiaa
