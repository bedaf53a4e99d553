/-
  Contracts of the document's compare, Cmp, Bits, Bit, fill, Bytes, Fill, Read, over this seat's translation. Conditions: at most 100000 words.
-/
import Derived.Test.YtdpahahfcdldcaaDoorRefB
namespace Go.Proofs.YtdpahahfcdldcaaDoor
open Go.RowKit
set_option linter.unusedVariables false

set_option maxHeartbeats 1000000 in
theorem compare_any (va vb : Value) (xs ys : List Nat) (w : World) (ha : SlV w va (C .u64 xs)) (hb : SlV w vb (C .u64 ys)) (hx : Lo W16 xs) (hy : Lo W16 ys) (hxm : xs.length ≤ 1000000) (hym : ys.length ≤ 1000000) :
    Calls Tryd.prog 55 #[va, vb] w fun e w' => e = .returned (.int .i64 (cmpI (val W16 xs) (val W16 ys))) ∧ w = w' := by
  obtain ⟨n1, hn1⟩ : ∃ n, xs.length = n := ⟨_, rfl⟩
  obtain ⟨n2, hn2⟩ : ∃ n, ys.length = n := ⟨_, rfl⟩
  have HA := Away.mk (fun i hi => digit_any va xs i w ha hxm hi); have HB := Away.mk (fun i hi => digit_any vb ys i w hb hym hi)
  obtain ⟨a1, c1, rfl, q1, r1⟩ := ha.shapeC hn1
  obtain ⟨a2, c2, rfl, q2, r2⟩ := hb.shapeC hn2
  obtain ⟨m, hmx, h1m, h2m, hmm⟩ : ∃ m : Nat, max (n1 : Int) (n2 : Int) = (m : Int) ∧ n1 ≤ m ∧ n2 ≤ m ∧ m ≤ 1000000 := ⟨max n1 n2, by omega, by omega, by omega, by omega⟩
  clear ha hb
  go_enter Tryd.func55, Tryd.ntmps55
  go_wp2
  go_loop [5] (fun iv => ∃ k : Nat, k ≤ m ∧ iv = .int .i64 ((k : Int) - 1) ∧ ∀ j, k ≤ j → xs.getD j 0 = ys.getD j 0) (fun i => (intOf i + 1).toNat)
  case atStart => exact ⟨m, Nat.le_refl _, rfl, fun j hj => by rw [getD_past (by omega), getD_past (by omega)]⟩
  case round =>
    obtain ⟨k, hk, rfl, hz⟩ := hrel
    rcases Nat.eq_zero_or_pos k with h0 | h0
    · subst h0
      have heq : cmpI (val W16 xs) (val W16 ys) = 0 := by rw [val_ext (fun j => hz j (Nat.zero_le _)), cmpI_eq]
      have HC := Away.mk heq
      clear hz heq
      go_wp2
      go_ret
      exact ⟨ret_int HC.out.symm, rfl⟩
    · obtain ⟨i, rfl⟩ : ∃ i, k = i + 1 := ⟨k - 1, by omega⟩
      have e1 : ((i + 1 : Nat) : Int) - 1 = (i : Int) := by omega
      rw [e1]
      have hlt := fun h => val_cmp (B := W16) (by decide) hx i (fun j hj => hz j (by omega)) h
      have hgt := fun h => val_cmp (B := W16) (by decide) hy i (fun j hj => (hz j (by omega)).symm) h
      have HLT := Away.mk hlt; have HGT := Away.mk hgt; have HZ := Away.mk hz
      have HA1 := Away.mk (HA.out i (by omega)); have HB1 := Away.mk (HB.out i (by omega))
      obtain ⟨x, hxx⟩ : ∃ x, xs.getD i 0 = x := ⟨_, rfl⟩
      obtain ⟨y, hyy⟩ : ∃ y, ys.getD i 0 = y := ⟨_, rfl⟩
      rw [hxx] at HLT HGT HA1
      rw [hyy] at HLT HGT HB1
      have HXX := Away.mk hxx; have HYY := Away.mk hyy
      clear hlt hgt hz e1 h0 hxx hyy
      have im : i ≤ 1000000 := by omega
      rcases Nat.lt_trichotomy x y with h | h | h
      · have hc := cmpI_lt (HLT.out h)
        have HC := Away.mk hc
        have d1 : decide (x < y) = true := decide_eq_true h
        clear hc
        go_wp2_with fail
        refine HA1.out.mono ?_
        rintro _ w1 ⟨rfl, rfl⟩
        go_wp2_with fail
        refine HB1.out.mono ?_
        rintro _ w1 ⟨rfl, rfl⟩
        go_wp2
        go_ret
        exact ⟨ret_int HC.out.symm, rfl⟩
      · subst h
        have d1 : decide (x < x) = false := decide_eq_false (by omega)
        go_wp2_with fail
        refine HA1.out.mono ?_
        rintro _ w1 ⟨rfl, rfl⟩
        go_wp2_with fail
        refine HB1.out.mono ?_
        rintro _ w1 ⟨rfl, rfl⟩
        go_wp2_with fail
        refine HA1.out.mono ?_
        rintro _ w1 ⟨rfl, rfl⟩
        go_wp2_with fail
        refine HB1.out.mono ?_
        rintro _ w1 ⟨rfl, rfl⟩
        go_wp2
        go_round
        case rel =>
          refine ⟨i, by omega, rfl, fun j hj => ?_⟩
          by_cases h : j = i
          · rw [h, HXX.out, HYY.out]
          · exact HZ.out j (by omega)
        case measure => simp [intOf]
      · have hc := cmpI_gt (HGT.out h)
        have HC := Away.mk hc
        have d1 : decide (x < y) = false := decide_eq_false (by omega)
        have d2 : decide (y < x) = true := decide_eq_true h
        clear hc
        go_wp2_with fail
        refine HA1.out.mono ?_
        rintro _ w1 ⟨rfl, rfl⟩
        go_wp2_with fail
        refine HB1.out.mono ?_
        rintro _ w1 ⟨rfl, rfl⟩
        go_wp2_with fail
        refine HA1.out.mono ?_
        rintro _ w1 ⟨rfl, rfl⟩
        go_wp2_with fail
        refine HB1.out.mono ?_
        rintro _ w1 ⟨rfl, rfl⟩
        go_wp2
        go_ret
        exact ⟨ret_int HC.out.symm, rfl⟩
theorem pow_mod32 {r : Nat} (h : r < 32) : (2 : Int) ^ r % 4294967296 = ((2 ^ r : Nat) : Int) := by
  have h1 : 2 ^ r < 4294967296 := Nat.lt_of_lt_of_le (Nat.pow_lt_pow_right (by decide) h) (by decide)
  have e : (2 : Int) ^ r = ((2 ^ r : Nat) : Int) := by simp
  rw [e]
  clear e
  generalize 2 ^ r = p at *
  omega
end Go.Proofs.YtdpahahfcdldcaaDoor
