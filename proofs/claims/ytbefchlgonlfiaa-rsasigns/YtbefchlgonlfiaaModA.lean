/-
  Contracts of modexp's Reduce, Mul, Exp and Gcd, over this seat's translation. Conditions: at most 400 words.
-/
import Derived.Test.YtbefchlgonlfiaaLawK
import Derived.Test.YtbefchlgonlfiaaModM
import Derived.Deep.LoopGhost
namespace Go.Proofs.Ytbefchlgonlfiaa
open Go.RowKit
set_option linter.unusedVariables false

theorem Num.mono {w : World} {v : Value} {N K L : Nat} (h : Num w v N K) (hK : K ≤ L) : Num w v N L := by
  obtain ⟨xs, h1, h2, h3, h4⟩ := h; exact ⟨xs, h1, h2, h3, by omega⟩
theorem Num.nil (w : World) (K : Nat) : Num w (.slice none 0 0) 0 K := ⟨[], SlV.nil w, by intro u hu; simp at hu, rfl, by simp⟩
theorem from_n (n : Nat) (hn : n < 18446744073709551616) (w : World) :
    Calls Try.prog 42 #[.int .u64 (n : Int)] w fun e w' => ∃ v', e = .returned v' ∧ RA w' v' n ∧ Below w.heap.size w w' :=
  (from_any n hn w).mono fun e w' ⟨v, he, ans, hbl⟩ => ⟨v, he, ans.ra, hbl⟩
theorem bit_n {va : Value} {A K : Nat} (i : Nat) (w : World) (ha : Num w va A K) (hK : K ≤ 1000) (hi : i < bl A) :
    Calls Try.prog 56 #[va, .int .i64 (i : Int)] w fun e w' => e = .returned (.int .i64 ((A / 2 ^ i % 2 : Nat) : Int)) ∧ w = w' := by
  have hB := ha.bl
  obtain ⟨xs, h1, h2, h3, h4⟩ := ha
  have hl : bl A ≤ 32 * xs.length := by
    refine (bl_le _ _).2 ?_
    have := val_lt (B := W32) (by decide) h2
    rwa [h3, pow32] at this
  have := bit_any va xs (i : Int) w h1 h2 (by omega) (by omega) (by omega)
  rw [show ((i : Int) / 32).toNat = i / 32 by omega, show ((i : Int) % 32).toNat = i % 32 by omega, bit_val h2, h3] at this
  exact this

theorem reduce_n {va vm : Value} {A M K L : Nat} (w : World) (ha : Num w va A K) (hm : Num w vm M L) (hK : K ≤ 1000) (hL : L ≤ 1000) (h0 : M ≠ 0) :
    Calls Try.prog 54 #[va, vm] w fun e w' => ∃ v', e = .returned (.tuple #[v', .int .i64 0]) ∧ RA w' v' (A % M) ∧ Below w.heap.size w w' := by
  have HD := Away.mk (div_n w ha hm hK hL h0)
  clear ha hm
  go_enter Try.func54, Try.ntmps54
  go_wp2_with fail
  refine HD.out.mono ?_
  rintro _ w1 ⟨v1, v2, rfl, hq, hr, hb⟩
  have HQ := Away.mk hr; have HB := Away.mk hb
  clear hq hr hb HD
  go_wp2
  go_ret2
  exact ⟨_, rfl, HQ.out, HB.out⟩
theorem reduce_0 {va vm : Value} {A K L : Nat} (w : World) (ha : Num w va A K) (hm : Num w vm 0 L) (hK : K ≤ 1000) (hL : L ≤ 1000) :
    Calls Try.prog 54 #[va, vm] w fun e w' => e = .returned (.tuple #[.slice none 0 0, .int .i64 1]) ∧ Below w.heap.size w w' := by
  have HD := Away.mk (div_n0 w ha hm hK hL)
  clear ha hm
  go_enter Try.func54, Try.ntmps54
  go_wp2_with fail
  refine HD.out.mono ?_
  rintro _ w1 ⟨rfl, hb⟩
  have HB := Away.mk hb
  clear hb HD
  go_wp2
  go_ret2
  exact ⟨rfl, HB.out⟩
theorem mulm_n {va vb vm : Value} {A B M K L J : Nat} (w : World) (ha : Num w va A K) (hb : Num w vb B L) (hm : Num w vm M J) (hK : K ≤ 400) (hL : L ≤ 400) (hJ : J ≤ 400) (h0 : M ≠ 0) :
    Calls Try.prog 55 #[va, vb, vm] w fun e w' => ∃ v', e = .returned (.tuple #[v', .int .i64 0]) ∧ RA w' v' (A * B % M) ∧ Below w.heap.size w w' := by
  have hfit := mul_fits (B := W32) ha.lt hb.lt
  have HD := Away.mk (mul_n w ha hb (by omega) (by omega)); have HM := Away.mk hm; have HF := Away.mk hfit
  clear ha hb hm hfit
  go_enter Try.func55, Try.ntmps55
  go_wp2_with fail
  refine HD.out.mono ?_
  rintro _ w1 ⟨v1, rfl, h1, hb1⟩
  have HR := Away.mk (reduce_n w1 (h1.num HF.out) (HM.out.below hb1) (by omega) (by omega) h0); have HB := Away.mk hb1
  clear h1 hb1 HD HM
  go_wp2_with fail
  refine HR.out.mono ?_
  rintro _ w2 ⟨v2, rfl, h2, hb2⟩
  have H2 := Away.mk h2; have HB2 := Away.mk (HB.out.trans (hb2.mono HB.out.size))
  clear h2 hb2 HR
  go_wp2
  go_ret2
  exact ⟨_, rfl, H2.out, HB2.out⟩
theorem mulm_0 {va vb vm : Value} {A B K L J : Nat} (w : World) (ha : Num w va A K) (hb : Num w vb B L) (hm : Num w vm 0 J) (hK : K ≤ 400) (hL : L ≤ 400) (hJ : J ≤ 400) :
    Calls Try.prog 55 #[va, vb, vm] w fun e w' => e = .returned (.tuple #[.slice none 0 0, .int .i64 1]) ∧ Below w.heap.size w w' := by
  have hfit := mul_fits (B := W32) ha.lt hb.lt
  have HD := Away.mk (mul_n w ha hb (by omega) (by omega)); have HM := Away.mk hm; have HF := Away.mk hfit
  clear ha hb hm hfit
  go_enter Try.func55, Try.ntmps55
  go_wp2_with fail
  refine HD.out.mono ?_
  rintro _ w1 ⟨v1, rfl, h1, hb1⟩
  have HR := Away.mk (reduce_0 w1 (h1.num HF.out) (HM.out.below hb1) (by omega) (by omega)); have HB := Away.mk hb1
  clear h1 hb1 HD HM
  go_wp2_with fail
  refine HR.out.mono ?_
  rintro _ w2 ⟨rfl, hb2⟩
  have HB2 := Away.mk (HB.out.trans (hb2.mono HB.out.size))
  clear hb2 HR
  go_wp2
  go_ret2
  exact ⟨rfl, HB2.out⟩

end Go.Proofs.Ytbefchlgonlfiaa
