/-
  Contracts of Mul, Pow, Inv and Root modulo the prime, over this seat's translation. Conditions: each as it says; the package's variables hold what their initialisers lay.
-/
import Derived.Test.YtgakpgcjninbgaaDoorFldE
import Derived.BigQuiet
namespace Go.Proofs.YtgakpgcjninbgaaDoor.F
open Go.RowKit
set_option linter.unusedVariables false
set_option maxRecDepth 10000

theorem fmul_any (A B : Nat) (hA : A < 115792089237316195423570985008687907853269984665640564039457584007913129639936) (hB : B < 115792089237316195423570985008687907853269984665640564039457584007913129639936) (w : World) (hT : Tab w) : Calls Tryd.prog 18 #[el A, el B] w fun e w' => e = .returned (el (A * B % P)) ∧ Below w.heap.size w w' := by
  obtain ⟨w4, h4, h⟩ := H2.begin w (C .u64 (wds A)) (C .u64 (wds B)) (C .u64 (Z 4))
  obtain ⟨R, hR⟩ : ∃ R, A * B % P = R := ⟨_, rfl⟩
  rw [hR]
  have HR := Away.mk hR
  clear hR
  unfold el
  go_enter Tryd.func18, Tryd.ntmps18
  go_upto_region 1 with (refine wpList_alloc_row rfl 24 rfl _ z4 ?_)
  try simp only [Act.put, List.setIfInBounds_toArray, List.set_cons_zero, List.set_cons_succ, alloc_size, h4]
  clear h4
  go_wp2_with (first | refine wpList_load_row rfl 24 _ rfl _ rfl _ _ _ _ h.r1 Tryd.underlying24 rfl (ie4 _) ?_ | refine wpList_load_row rfl 24 _ rfl _ rfl _ _ _ _ h.r2 Tryd.underlying24 rfl (ie4 _) ?_)
  refine (product_any A B hA hB _).mono ?_
  rintro _ wn ⟨⟨p, rfl, lp, hp, hv⟩, hb⟩
  replace h := h.below hb
  clear hb
  have HV := Away.mk hv
  clear hv
  go_wp2_with fail
  refine (folded_any p lp hp _).mono ?_
  rintro _ wn2 ⟨⟨M, rfl, hM, hMv⟩, hb⟩
  replace h := h.below hb
  rw [HV.out] at hMv
  clear hb
  go_wp2_with fail
  refine (reduce_any M hM _ (h.tab hT)).mono ?_
  rintro _ wn3 ⟨rfl, hb⟩
  replace h := h.below hb
  rw [hMv, HR.out]
  clear hb hMv
  go_wp2_with (refine wpList_store_R rfl 24 _ _ rfl _ (C .u64 (wds R)) rfl rfl h.r3 (ie4 _) (ze4 _) (C_allL _ _) ?_; intro w7 q7 hg7 hz7)
  exact result_row Tryd.results18 rfl q7 Tryd.underlying24 rfl (ie4 _) rfl ⟨rfl, below_grown h.bel hg7 (by omega) h.r3.lt⟩

/-- The power by the upper k bits of an exponent of 256. -/
def pw (A N k : Nat) : Nat := A ^ (N / 2 ^ (256 - k)) % P
theorem pw_zero {A N : Nat} (h : N < 115792089237316195423570985008687907853269984665640564039457584007913129639936) : pw A N 0 = 1 := by
  unfold pw
  rw [Nat.div_eq_of_lt (by rw [show (2 : Nat) ^ (256 - 0) = 115792089237316195423570985008687907853269984665640564039457584007913129639936 by decide]; exact h), Nat.pow_zero]
  exact Nat.mod_eq_of_lt (by have := P_two; omega)
theorem pw_all (A N : Nat) : pw A N 256 = A ^ N % P := by
  unfold pw
  rw [show 256 - 256 = 0 from rfl, Nat.pow_zero, Nat.div_one]
theorem pw_step {A N k : Nat} (h : k < 256) : pw A N (k + 1) = if N / 2 ^ (255 - k) % 2 = 1 then pw A N k * pw A N k % P * A % P else pw A N k * pw A N k % P := by
  unfold pw
  have e1 : N / 2 ^ (256 - k) = N / 2 ^ (255 - k) / 2 := by rw [Nat.div_div_eq_div_mul, ← Nat.pow_succ, show (255 - k).succ = 256 - k by omega]
  rw [show 256 - (k + 1) = 255 - k by omega, e1]
  generalize N / 2 ^ (255 - k) = m
  have e2 : A ^ (m / 2) % P * (A ^ (m / 2) % P) % P = A ^ (2 * (m / 2)) % P := by rw [← Nat.mul_mod, ← Nat.pow_add, Nat.two_mul]
  rw [e2]
  split
  · rw [Nat.mod_mul_mod, ← Nat.pow_succ]
    congr 2
    omega
  · congr 2
    omega
theorem pw_lt (A N k : Nat) : pw A N k < 115792089237316195423570985008687907853269984665640564039457584007913129639936 := mod_lt_T _

set_option maxHeartbeats 1000000 in
theorem fpow_any (A N : Nat) (hA : A < 115792089237316195423570985008687907853269984665640564039457584007913129639936) (hN : N < 115792089237316195423570985008687907853269984665640564039457584007913129639936) (w : World) (hT : Tab w) : Calls Tryd.prog 22 #[el A, el N] w fun e w' => e = .returned (el (A ^ N % P)) ∧ Below w.heap.size w w' := by
  obtain ⟨w4, h4, h⟩ := H2.begin w (C .u64 (wds A)) (C .u64 (wds N)) (C .u64 (Z 4))
  rw [← pw_all]
  unfold el
  go_enter Tryd.func22, Tryd.ntmps22
  go_upto_region 1 with (refine wpList_alloc_row rfl 24 rfl _ z4 ?_)
  try simp only [Act.put, List.setIfInBounds_toArray, List.set_cons_zero, List.set_cons_succ, alloc_size, h4]
  clear h4
  go_wp2_with fail
  refine (from_any 1 (by decide) _).mono ?_
  rintro _ wn ⟨rfl, hb⟩
  replace h := h.below hb
  clear hb
  obtain ⟨g3, hg3, q, hq⟩ := new_row h
  replace h := h.alloc (.cells (C .u64 (Z 4)).toArray 24)
  go_wp2_with (first | refine wpList_alloc_row rfl 24 rfl _ z4 ?_ | (refine wpList_store_R rfl 24 _ _ rfl _ (C .u64 (wds 1)) (by rw [← hg3]; rfl) rfl q (ie4 _) (ze4 _) (C_allL _ _) ?_; intro w5 r5 hg5 hz5))
  replace h := h.grown hg5 hq.1
  have hq1 := hq.1
  rw [← pw_zero (A := A) hN] at r5
  try rw [hg3]
  clear hg5 q hq hg3
  go_loopw [8] (fun i wr => ∃ k : Nat, k ≤ 256 ∧ i = .int .i64 k ∧ Row wr g3 24 (C .u64 (wds (pw A N k))) ∧ H2 w.heap.size w wr (C .u64 (wds A)) (C .u64 (wds N)) (C .u64 (Z 4))) (fun i _ => 256 - (intOf i).toNat)
  case atStart => exact ⟨0, Nat.zero_le _, rfl, r5, h⟩
  case round =>
    clear r5 h
    obtain ⟨k, hk, rfl, q, h⟩ := hrel
    by_cases hlt : k < 256
    · have hki : (k : Int) < 256 := by omega
      obtain ⟨i, hi⟩ : ∃ i, 255 - k = i := ⟨_, rfl⟩
      have di : IntKind.i64.wrap ((255 : Int) - (k : Int)) = (i : Int) := by rw [IntWalk.i64_in _ ⟨by omega, by omega⟩]; omega
      have hil : i < 256 := by omega
      have HN : Away (pw A N (k + 1) = if N / 2 ^ i % 2 = 1 then pw A N k * pw A N k % P * A % P else pw A N k * pw A N k % P) := ⟨by rw [pw_step hlt, hi]⟩
      have hX := pw_lt A N k
      generalize pw A N k = X at *
      clear hi
      go_wp2_with (refine wpList_load_row rfl 24 _ rfl _ rfl _ _ _ _ q Tryd.underlying24 rfl (ie4 _) ?_)
      refine (fmul_any X X hX hX _ (h.tab hT)).mono ?_
      rintro _ wn2 ⟨rfl, hb⟩
      replace h := h.below hb
      replace q := q.belowS hb
      clear hb
      have hYl := mod_lt_T (X * X)
      generalize X * X % P = Y at *
      have hbt := fbit_any N i hN hil
      obtain ⟨b, hbv⟩ : ∃ b, decide (N / 2 ^ i % 2 = 1) = b := ⟨_, rfl⟩
      rw [hbv] at hbt
      go_upto_region 6 with (refine wpList_store_R rfl 24 _ _ rfl _ (C .u64 (wds Y)) rfl rfl q (ie4 _) (ee4 _ _) (C_allL _ _) ?_; intro w6 q6 hg6 hz6)
      replace h := h.grown hg6 hq1
      clear q hg6
      go_wp2_with (refine wpList_load_row rfl 24 _ rfl _ rfl _ _ _ _ h.r2 Tryd.underlying24 rfl (ie4 _) ?_)
      refine (hbt _).mono ?_
      rintro _ wn3 ⟨rfl, hb⟩
      replace h := h.below hb
      replace q6 := q6.belowS hb
      clear hb hbt
      cases b
      · have HN' : Away (pw A N (k + 1) = Y) := ⟨by rw [HN.out, if_neg (of_decide_eq_false hbv)]⟩
        clear HN hbv
        go_wp2
        go_roundw
        case rel => exact ⟨k + 1, by omega, by go_num, by rw [HN'.out]; exact q6, h⟩
        case measure => simp [intOf]; omega
      · have HN' : Away (pw A N (k + 1) = Y * A % P) := ⟨by rw [HN.out, if_pos (of_decide_eq_true hbv)]⟩
        clear HN hbv
        go_wp2_with (first | refine wpList_load_row rfl 24 _ rfl _ rfl _ _ _ _ q6 Tryd.underlying24 rfl (ie4 _) ?_ | refine wpList_load_row rfl 24 _ rfl _ rfl _ _ _ _ h.r1 Tryd.underlying24 rfl (ie4 _) ?_)
        refine (fmul_any Y A hYl hA _ (h.tab hT)).mono ?_
        rintro _ wn4 ⟨rfl, hb⟩
        replace h := h.below hb
        replace q6 := q6.belowS hb
        clear hb
        generalize Y * A % P = V at *
        go_wp2_with (refine wpList_store_R rfl 24 _ _ rfl _ (C .u64 (wds V)) rfl rfl q6 (ie4 _) (ee4 _ _) (C_allL _ _) ?_; intro w7 q7 hg7 hz7)
        replace h := h.grown hg7 hq1
        clear q6 hg7
        go_roundw
        case rel => exact ⟨k + 1, by omega, by go_num, by rw [HN'.out]; exact q7, h⟩
        case measure => simp [intOf]; omega
    · have HK : Away (k = 256) := ⟨by omega⟩
      have dk : decide ((k : Int) < 256) = false := decide_eq_false (by omega)
      obtain ⟨V, hV⟩ : ∃ V, pw A N 256 = V := ⟨_, rfl⟩
      rw [HK.out, hV] at q
      have HV := Away.mk hV
      clear hV hlt hk
      go_wp2_with (first | refine wpList_load_row rfl 24 _ rfl _ rfl _ _ _ _ q Tryd.underlying24 rfl (ie4 _) ?_ | (refine wpList_store_R rfl 24 _ _ rfl _ (C .u64 (wds V)) rfl rfl h.r3 (ie4 _) (ze4 _) (C_allL _ _) ?_; intro w7 q7 hg7 hz7))
      exact result_row Tryd.results22 rfl q7 Tryd.underlying24 rfl (ie4 _) rfl ⟨by rw [HV.out], below_grown h.bel hg7 (by omega) h.r3.lt⟩
end Go.Proofs.YtgakpgcjninbgaaDoor.F
