/-
  Contracts of the document's Pow and Inv, over this seat's translation. Conditions: each as it says.
-/
import Derived.Test.YtgakpgcjninbgaaDoorFldQ
namespace Go.Proofs.YtgakpgcjninbgaaDoor.F
open Go.RowKit
set_option linter.unusedVariables false
set_option maxRecDepth 10000

theorem frefmul_el (A B : Nat) (hA : A < 115792089237316195423570985008687907853269984665640564039457584007913129639936) (hB : B < 115792089237316195423570985008687907853269984665640564039457584007913129639936) (w : World) : Calls Tryd.prog 19 #[.agg (C .u64 (wds A)).toArray, .agg (C .u64 (wds B)).toArray] w fun e w' => e = .returned (.agg (C .u64 (wds (A * B % P))).toArray) ∧ Below w.heap.size w w' := frefmul_any A B hA hB w
theorem b1 : Tryd.prog.built 24 [(0, .int .u64 1)] = some (C .u64 (wds 1)).toArray := by kernel_rfl
theorem b2 : Tryd.prog.built 24 [(0, .int .u64 2)] = some (C .u64 (wds 2)).toArray := by kernel_rfl

set_option maxHeartbeats 2000000 in
theorem frefpow_any (A N : Nat) (hA : A < 115792089237316195423570985008687907853269984665640564039457584007913129639936) (hN : N < 115792089237316195423570985008687907853269984665640564039457584007913129639936) (w : World) : Calls Tryd.prog 23 #[el A, el N] w fun e w' => e = .returned (el (A ^ N % P)) ∧ Below w.heap.size w w' := by
  obtain ⟨w4, h4, h⟩ := H2.begin w (C .u64 (wds A)) (C .u64 (wds N)) (C .u64 (Z 4))
  have hxN := wds_lo N
  rw [← pw_all]
  unfold el
  go_enter Tryd.func23, Tryd.ntmps23
  go_upto_region 1 with (refine wpList_alloc_row rfl 24 rfl _ z4 ?_)
  try simp only [Act.put, List.setIfInBounds_toArray, List.set_cons_zero, List.set_cons_succ, alloc_size, h4]
  clear h4
  obtain ⟨g3, hg3, q0, hq1⟩ := new_rowT h 24 (C .u64 (Z 4))
  replace h := h.alloc (.cells (C .u64 (Z 4)).toArray 24)
  go_upto_region 2 with (first | refine wpList_alloc_row rfl 24 rfl _ z4 ?_ | refine wpList_build_C rfl 24 _ rfl _ b1 ?_ | (refine wpList_store_R rfl 24 _ _ rfl _ (C .u64 (wds 1)) (by rw [← hg3]; rfl) rfl q0 (ie4 _) (ze4 _) (C_allL _ _) ?_; intro w5 r5 hg5 hz5))
  replace h := h.grown hg5 hq1
  rw [← pw_zero (A := A) hN] at r5
  try rw [hg3]
  clear hg5 q0 hg3 hz5
  go_wp2
  go_loopw [6] (fun i wr => ∃ n : Nat, n ≤ 256 ∧ i = .int .i64 ((n : Int) - 1) ∧ Row wr g3 24 (C .u64 (wds (pw A N (256 - n)))) ∧ H2 w.heap.size w wr (C .u64 (wds A)) (C .u64 (wds N)) (C .u64 (Z 4))) (fun i _ => (intOf i + 1).toNat)
  case atStart => exact ⟨256, Nat.le_refl _, rfl, r5, h⟩
  case round =>
    clear r5 h
    obtain ⟨n, hn, rfl, q, h⟩ := hrel
    by_cases hp : 0 < n
    · obtain ⟨m, rfl⟩ : ∃ m, n = m + 1 := ⟨n - 1, by omega⟩
      have em : (((m + 1 : Nat) : Int) - 1) = (m : Int) := by omega
      rw [em]
      have hm256 : m < 256 := by omega
      have HN : Away (pw A N (256 - m) = if N / 2 ^ m % 2 = 1 then pw A N (256 - (m + 1)) * pw A N (256 - (m + 1)) % P * A % P else pw A N (256 - (m + 1)) * pw A N (256 - (m + 1)) % P) := ⟨by
        have := pw_step (A := A) (N := N) (k := 256 - (m + 1)) (by omega)
        rw [show 256 - (m + 1) + 1 = 256 - m by omega, show 255 - (256 - (m + 1)) = m by omega] at this
        exact this⟩
      have hX := pw_lt A N (256 - (m + 1))
      generalize pw A N (256 - (m + 1)) = X at *
      have hm0 : (0 : Int) ≤ (m : Int) := by omega
      have dm : decide ((0 : Int) ≤ (m : Int)) = true := decide_eq_true hm0
      have wm : IntKind.i64.wrap ((m : Int) - 1) = (m : Int) - 1 := by rw [IntWalk.i64_in _ ⟨by omega, by omega⟩]
      clear em hn hp
      go_wp2_with (refine wpList_load_row rfl 24 _ rfl _ rfl _ _ _ _ q Tryd.underlying24 rfl (ie4 _) ?_)
      refine (frefmul_el X X hX hX _).mono ?_
      rintro _ wn2 ⟨rfl, hb⟩
      replace h := h.below hb
      replace q := q.belowS hb
      clear hb
      have hYl := mod_lt_T (X * X)
      generalize X * X % P = Y at *
      go_upto_region 6 with (refine wpList_store_R rfl 24 _ _ rfl _ (C .u64 (wds Y)) rfl rfl q (ie4 _) (ee4 _ _) (C_allL _ _) ?_; intro w6 q6 hg6 hz6)
      replace h := h.grown hg6 hq1
      clear q hg6 hz6
      have c1 := h.r2.cell (m / 64)
      rw [C_get .u64 (by rw [wds_length]; omega)] at c1
      have bx := hxN.getD (by decide) (m / 64)
      have hbt := bit_of (A := N) (i := m)
      rw [← wds_getD hN] at hbt
      generalize (wds N).getD (m / 64) 0 = x at *
      obtain ⟨qq, hqq⟩ : ∃ qq, m / 64 = qq := ⟨_, rfl⟩
      obtain ⟨r, hr⟩ : ∃ r, m % 64 = r := ⟨_, rfl⟩
      rw [hqq] at c1
      rw [hr] at hbt
      have dq : (m : Int).tdiv 64 = (qq : Int) := by rw [Int.tdiv_eq_ediv_of_nonneg (by omega)]; omega
      have dq' : (m : Int) / 64 = (qq : Int) := by omega
      have bq : (qq : Int) < 4 := by omega
      have dr : (m : Int).tmod 64 = (r : Int) := by rw [Int.tmod_eq_emod_of_nonneg (by omega)]; omega
      have dr' : (m : Int) % 64 = (r : Int) := by omega
      have br : (r : Int) < 64 := by omega
      have wr' : IntKind.u64.wrap (r : Int) = (r : Int) := by rw [IntKind.wrap_u64]; omega
      obtain ⟨y, hy⟩ : ∃ y, x / 2 ^ r = y := ⟨_, rfl⟩
      have ey : (x : Int) / 2 ^ r = (y : Int) := by rw [← hy]; simp
      rw [hy] at hbt
      have hyl : y < 18446744073709551616 := by rw [← hy]; exact Nat.lt_of_le_of_lt (Nat.div_le_self _ _) bx
      obtain ⟨u, hu⟩ : ∃ u, y % 2 = u := ⟨_, rfl⟩
      have eu : bits .and .u64 (y : Int) 1 = (u : Int) := by
        have := u64_and_nat y 1 hyl (by decide)
        rw [show ((1 : Nat) : Int) = 1 from rfl] at this
        rw [this, Nat.and_one_is_mod, hu]
      rw [hu] at hbt
      rw [← hbt] at HN
      clear hqq hr hy hyl bx hu hbt
      by_cases h1 : u = 1
      · have du : ((u : Int) == 1) = true := by rw [beq_iff_eq]; omega
        have HN' : Away (pw A N (256 - m) = Y * A % P) := ⟨by rw [HN.out, if_pos h1]⟩
        clear HN h1
        go_wp2_with (first | refine wpList_load_row rfl 24 _ rfl _ rfl _ _ _ _ q6 Tryd.underlying24 rfl (ie4 _) ?_ | refine wpList_load_row rfl 24 _ rfl _ rfl _ _ _ _ h.r1 Tryd.underlying24 rfl (ie4 _) ?_)
        refine (frefmul_el Y A hYl hA _).mono ?_
        rintro _ wn4 ⟨rfl, hb⟩
        replace h := h.below hb
        replace q6 := q6.belowS hb
        clear hb c1
        generalize Y * A % P = V at *
        go_wp2_with (refine wpList_store_R rfl 24 _ _ rfl _ (C .u64 (wds V)) rfl rfl q6 (ie4 _) (ee4 _ _) (C_allL _ _) ?_; intro w7 q7 hg7 hz7)
        replace h := h.grown hg7 hq1
        clear q6 hg7
        go_roundw
        case rel => exact ⟨m, by omega, rfl, by rw [HN'.out]; exact q7, h⟩
        case measure => simp [intOf] <;> omega
      · have du : ((u : Int) == 1) = false := by rw [beq_eq_false_iff_ne]; omega
        have HN' : Away (pw A N (256 - m) = Y) := ⟨by rw [HN.out, if_neg h1]⟩
        clear HN h1
        go_wp2
        go_roundw
        case rel => exact ⟨m, by omega, rfl, by rw [HN'.out]; exact q6, h⟩
        case measure => simp [intOf] <;> omega
    · have HK : Away (n = 0) := ⟨by omega⟩
      have en : ((n : Int) - 1) = -1 := by omega
      rw [en]
      obtain ⟨V, hV⟩ : ∃ V, pw A N 256 = V := ⟨_, rfl⟩
      rw [HK.out, show 256 - 0 = 256 from rfl, hV] at q
      have HV := Away.mk hV
      clear hV hp hn en
      go_wp2_with (first | refine wpList_load_row rfl 24 _ rfl _ rfl _ _ _ _ q Tryd.underlying24 rfl (ie4 _) ?_ | (refine wpList_store_R rfl 24 _ _ rfl _ (C .u64 (wds V)) rfl rfl h.r3 (ie4 _) (ze4 _) (C_allL _ _) ?_; intro w7 q7 hg7 hz7))
      exact result_row Tryd.results23 rfl q7 Tryd.underlying24 rfl (ie4 _) rfl ⟨by rw [HV.out], below_grown h.bel hg7 (by omega) h.r3.lt⟩
theorem frefpow_el (A B : Nat) (hA : A < 115792089237316195423570985008687907853269984665640564039457584007913129639936) (hB : B < 115792089237316195423570985008687907853269984665640564039457584007913129639936) (w : World) : Calls Tryd.prog 23 #[.agg (C .u64 (wds A)).toArray, .agg (C .u64 (wds B)).toArray] w fun e w' => e = .returned (.agg (C .u64 (wds (A ^ B % P))).toArray) ∧ Below w.heap.size w w' := frefpow_any A B hA hB w
theorem prime_el (w : World) : Calls Tryd.prog 40 #[] w fun e w' => e = .returned (.agg (C .u64 (wds P)).toArray) ∧ Below w.heap.size w w' := prime_any w
theorem P_less : (P + 115792089237316195423570985008687907853269984665640564039457584007913129639936 - 2) % 115792089237316195423570985008687907853269984665640564039457584007913129639936 = P - 2 := by decide +kernel
theorem refless_P2 (w : World) : Calls Tryd.prog 43 #[.agg (C .u64 (wds P)).toArray, .agg (C .u64 (wds 2)).toArray] w fun e w' => e = .returned (.tuple #[.agg (C .u64 (wds (P - 2))).toArray, .bool (decide (P < 2))]) ∧ Below w.heap.size w w' := by
  have := refless_any P 2 P_lt (by decide) w
  rw [P_less] at this
  exact this
theorem frefinv_any (A : Nat) (hA : A < 115792089237316195423570985008687907853269984665640564039457584007913129639936) (w : World) : Calls Tryd.prog 25 #[el A] w fun e w' => e = .returned (el (A ^ (P - 2) % P)) ∧ Below w.heap.size w w' := by
  obtain ⟨w4, h4, h⟩ := H1.begin w (C .u64 (wds A)) (C .u64 (Z 4))
  have hp := frefpow_el A (P - 2) hA P2_lt
  have hlp := refless_P2
  obtain ⟨R, hR⟩ : ∃ R, A ^ (P - 2) % P = R := ⟨_, rfl⟩
  rw [hR] at hp ⊢
  clear hR
  generalize decide (P < 2) = ov at *
  generalize P - 2 = E at *
  unfold el
  go_enter Tryd.func25, Tryd.ntmps25
  go_upto_region 1 with (refine wpList_alloc_row rfl 24 rfl _ z4 ?_)
  try simp only [Act.put, List.setIfInBounds_toArray, List.set_cons_zero, List.set_cons_succ, alloc_size, h4]
  clear h4
  go_wp2_with fail
  refine (prime_el _).mono ?_
  rintro _ wn ⟨rfl, hb⟩
  replace h := h.below hb
  clear hb
  go_wp2_with (refine wpList_build_C rfl 24 _ rfl _ b2 ?_)
  refine (hlp _).mono ?_
  rintro _ wn ⟨rfl, hb⟩
  replace h := h.below hb
  clear hb hlp
  obtain ⟨g3, hg3, q0, hq⟩ := new_row1 h
  replace h := h.alloc (.cells (C .u64 (Z 4)).toArray 24)
  go_upto_region 2 with (first | refine wpList_alloc_row rfl 24 rfl _ z4 ?_ | (refine wpList_store_R rfl 24 _ _ rfl _ (C .u64 (wds E)) (by rw [← hg3]; rfl) rfl q0 (ie4 _) (ze4 _) (C_allL _ _) ?_; intro w5 q hg5 hz5))
  replace h := h.grown hg5 hq.1
  try rw [hg3]
  clear q0 hg5 hq hg3 hz5
  go_wp2_with (first | refine wpList_load_row rfl 24 _ rfl _ rfl _ _ _ _ h.r1 Tryd.underlying24 rfl (ie4 _) ?_ | refine wpList_load_row rfl 24 _ rfl _ rfl _ _ _ _ q Tryd.underlying24 rfl (ie4 _) ?_)
  refine (hp _).mono ?_
  rintro _ wn ⟨rfl, hb⟩
  replace h := h.below hb
  clear hb hp
  go_wp2_with (refine wpList_store_R rfl 24 _ _ rfl _ (C .u64 (wds R)) rfl rfl h.r3 (ie4 _) (ze4 _) (C_allL _ _) ?_; intro w7 q7 hg7 hz7)
  exact result_row Tryd.results25 rfl q7 Tryd.underlying24 rfl (ie4 _) rfl ⟨rfl, below_grown h.bel hg7 (by omega) h.r3.lt⟩
end Go.Proofs.YtgakpgcjninbgaaDoor.F
