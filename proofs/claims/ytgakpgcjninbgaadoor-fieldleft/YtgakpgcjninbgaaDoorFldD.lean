/-
  Contracts of From, bit and Reduce, over this seat's translation. Conditions: each as it says; the package's variables hold what their initialisers lay.
-/
import Derived.Test.YtgakpgcjninbgaaDoorFldC
import Derived.Test.YtgakpgcjninbgaaDoorKit10
namespace Go.Proofs.YtgakpgcjninbgaaDoor.F
open Go.RowKit
set_option linter.unusedVariables false
set_option maxRecDepth 10000

/-- A package's variable that holds n. -/
def Glob (w : World) (g n : Nat) : Prop := ∃ t f, w.heap[g]? = some (.cells (C .u64 (wds n)).toArray t f)
theorem Glob.below {w w' : World} {g n : Nat} (h : Glob w g n) (hb : Below w.heap.size w w') : Glob w' g n := by
  obtain ⟨t, f, h⟩ := h
  exact ⟨t, f, (hb.block g (Array.getElem?_eq_some_iff.1 h).1).trans h⟩
theorem Glob.grown {w w' : World} {g n k : Nat} (h : Glob w g n) (hg : w.grownBy w' (some k)) (hne : g ≠ k) : Glob w' g n := by
  obtain ⟨t, f, h⟩ := h
  exact ⟨t, f, (hg.block g (Array.getElem?_eq_some_iff.1 h).1 (by simpa using hne)).trans h⟩
theorem Glob.lt {w : World} {g n : Nat} (h : Glob w g n) : g < w.heap.size := by
  obtain ⟨t, f, h⟩ := h
  exact (Array.getElem?_eq_some_iff.1 h).1
theorem Glob.drew {w : World} {g n : Nat} (h : Glob w g n) : Glob w.drew g n := h
/-- What the package's variable prime holds. -/
abbrev Tab (w : World) : Prop := Glob w 0 P
theorem e4 (n : Nat) : (C .u64 (wds n)).length = 4 := by rw [C_length, wds_length]
theorem ie4 (n : Nat) : (Tryd.prog.info? 24).map (·.size) = some (C .u64 (wds n)).length := by rw [e4]; exact i4
theorem ze4 (n : Nat) : (C .u64 (Z 4)).length = (C .u64 (wds n)).length := by rw [e4]; rfl
theorem ee4 (m n : Nat) : (C .u64 (wds m)).length = (C .u64 (wds n)).length := by rw [e4, e4]

theorem from_any (n : Nat) (hn : n < 18446744073709551616) (w : World) : Calls Tryd.prog 17 #[.int .u64 (n : Int)] w fun e w' => e = .returned (el n) ∧ Below w.heap.size w w' := by
  have hb : Value.agg #[.int .u64 (n : Int), .int .u64 0, .int .u64 0, .int .u64 0] = .agg (C .u64 (wds n)).toArray := by rw [wds_small hn]; rfl
  have r1 := Row.new w 24 (C .u64 (Z 4))
  have hL := (Below.more (Below.refl w.heap.size w) (Nat.le_refl _) (.cells (C .u64 (Z 4)).toArray 24)).1
  have hz := ze4 n
  have hi := ie4 n
  unfold el
  generalize wds n = xs at *
  go_enter Tryd.func17, Tryd.ntmps17
  go_wp2_with (first | refine wpList_alloc_row rfl 24 rfl _ z4 ?_ | (refine wpList_store_R rfl 24 _ _ rfl _ (C .u64 xs) rfl rfl r1 hi hz (C_allL _ _) ?_; intro w5 hR5 hg5 hz5))
  exact result_row Tryd.results17 rfl hR5 Tryd.underlying24 rfl hi rfl ⟨rfl, below_grown hL hg5 (by omega) r1.lt⟩

theorem bit_of {A i : Nat} : A / 18446744073709551616 ^ (i / 64) % 18446744073709551616 / 2 ^ (i % 64) % 2 = A / 2 ^ i % 2 := by
  have hp : (18446744073709551616 : Nat) ^ (i / 64) = 2 ^ (64 * (i / 64)) := by rw [Nat.pow_mul]
  obtain ⟨r, hr⟩ : ∃ r, i % 64 = r := ⟨_, rfl⟩
  have hr64 : r < 64 := by omega
  have hW : (18446744073709551616 : Nat) = 2 ^ r * 2 ^ (64 - r) := by rw [← Nat.pow_add, show r + (64 - r) = 64 by omega]
  rw [hr, hp, hW, Nat.mod_mul_right_div_self, Nat.div_div_eq_div_mul, ← Nat.pow_add, show 64 * (i / 64) + r = i by omega]
  obtain ⟨s, hs⟩ : ∃ s, 64 - r = s + 1 := ⟨63 - r, by omega⟩
  rw [hs, Nat.pow_succ', Nat.mod_mul_right_mod]
theorem fbit_any (A i : Nat) (hA : A < 115792089237316195423570985008687907853269984665640564039457584007913129639936) (hi : i < 256) (w : World) : Calls Tryd.prog 47 #[el A, .int .i64 (i : Int)] w fun e w' => e = .returned (.bool (decide (A / 2 ^ i % 2 = 1))) ∧ Below w.heap.size w w' := by
  have r1 := Row.new w 24 (C .u64 (wds A))
  have hL := (Below.more (Below.refl w.heap.size w) (Nat.le_refl _) (.cells (C .u64 (wds A)).toArray 24)).1
  have c1 := r1.cell (i / 64)
  rw [C_get .u64 (by rw [wds_length]; omega)] at c1
  rw [← bit_of]
  have bx := (wds_lo A).getD (by decide) (i / 64)
  rw [wds_getD hA] at bx c1
  unfold el
  generalize A / 18446744073709551616 ^ (i / 64) % 18446744073709551616 = x at *
  obtain ⟨q, hq⟩ : ∃ q, i / 64 = q := ⟨_, rfl⟩
  obtain ⟨r, hr⟩ : ∃ r, i % 64 = r := ⟨_, rfl⟩
  rw [hq] at c1
  rw [hr]
  have dq : (i : Int).tdiv 64 = (q : Int) := by rw [Int.tdiv_eq_ediv_of_nonneg (by omega)]; omega
  have dq' : (i : Int) / 64 = (q : Int) := by omega
  have bq : (q : Int) < 4 := by omega
  have dr : (i : Int).tmod 64 = (r : Int) := by rw [Int.tmod_eq_emod_of_nonneg (by omega)]; omega
  have dr' : (i : Int) % 64 = (r : Int) := by omega
  have br : (r : Int) < 64 := by omega
  obtain ⟨y, hy⟩ : ∃ y, x / 2 ^ r = y := ⟨_, rfl⟩
  have ey : (x : Int) / 2 ^ r = (y : Int) := by rw [← hy]; simp
  rw [hy]
  have hyl : y < 18446744073709551616 := by rw [← hy]; exact Nat.lt_of_le_of_lt (Nat.div_le_self _ _) bx
  obtain ⟨u, hu⟩ : ∃ u, y % 2 = u := ⟨_, rfl⟩
  have eu : bits .and .u64 (y : Int) 1 = (u : Int) := by
    have := u64_and_nat y 1 hyl (by decide)
    rw [show ((1 : Nat) : Int) = 1 from rfl] at this
    rw [this, Nat.and_one_is_mod, hu]
  rw [hu]
  have du : ((u : Int) == 1) = decide (u = 1) := by rw [Bool.eq_iff_iff]; simp; omega
  clear hq hr hy hu hyl bx
  generalize wds A = xs at *
  go_enter Tryd.func47, Tryd.ntmps47
  go_wp2
  go_ret
  exact ⟨rfl, hL⟩

/-- A number, less the prime where it is not below it, so often. -/
def rd (A : Nat) : Nat → Nat
  | 0 => A
  | k + 1 => if rd A k < P then rd A k else rd A k - P
theorem rd_le (A k : Nat) : rd A k ≤ A := by
  induction k with
  | zero => exact Nat.le_refl _
  | succ k ih => simp only [rd]; split <;> omega
theorem rd_two {A : Nat} (h : A < 115792089237316195423570985008687907853269984665640564039457584007913129639936) : rd A 2 = A % P := by
  rw [red_once h]
  have e1 : rd A 1 = if A < P then A else A - P := rfl
  show (if rd A 1 < P then rd A 1 else rd A 1 - P) = _
  rw [e1]
  by_cases h1 : A < P
  · simp only [if_pos h1]
  · simp only [if_neg h1]

theorem reduce_any (A : Nat) (hA : A < 115792089237316195423570985008687907853269984665640564039457584007913129639936) (w : World) (hT : Tab w) : Calls Tryd.prog 11 #[el A] w fun e w' => e = .returned (el (A % P)) ∧ Below w.heap.size w w' := by
  obtain ⟨w4, h4, r1, r2, hL, hS⟩ := rows2 w 24 24 (C .u64 (wds A)) (C .u64 (Z 4))
  have hT4 := hT.below hL
  have hP := P_lt
  rw [← rd_two hA]
  unfold el
  go_enter Tryd.func11, Tryd.ntmps11
  go_wp2_with (refine wpList_alloc_row rfl 24 rfl _ z4 ?_)
  clear h4
  go_loopw [5] (fun i wr => ∃ k M : Nat, k ≤ 2 ∧ i = .int .i64 k ∧ Away (M = rd A k) ∧ M < 115792089237316195423570985008687907853269984665640564039457584007913129639936 ∧ Row wr w.heap.size 24 (C .u64 (wds M)) ∧ Row wr (w.heap.size + 1) 24 (C .u64 (Z 4)) ∧ Tab wr ∧ Below w.heap.size w wr ∧ w.heap.size + 1 < wr.heap.size) (fun i _ => 2 - (intOf i).toNat)
  case atStart => exact ⟨0, A, Nat.zero_le _, rfl, ⟨rfl⟩, hA, r1, r2, hT4, hL, by omega⟩
  case round =>
    clear r1 r2 hT4 hL
    obtain ⟨k, M, hk, rfl, HM, hM, r1, r2, ⟨tg, fg, hTg⟩, hL, hlt0⟩ := hrel
    by_cases hlt : k < 2
    · have hki : (k : Int) < 2 := by omega
      have hTk : Tab wr := ⟨tg, fg, hTg⟩
      have hiM := ie4 M
      have hiP := ie4 P
      have hm := minus_any M P hM hP
      have hMP : Away (rd A (k + 1) = if M < P then M else M - P) := ⟨by rw [HM.out]; rfl⟩
      obtain ⟨D, hD⟩ : ∃ D, (M + 115792089237316195423570985008687907853269984665640564039457584007913129639936 - P) % 115792089237316195423570985008687907853269984665640564039457584007913129639936 = D := ⟨_, rfl⟩
      rw [hD] at hm
      have hDl : D < 115792089237316195423570985008687907853269984665640564039457584007913129639936 := by rw [← hD]; exact Nat.mod_lt _ (by decide)
      have hDv : Away (¬ M < P → D = M - P) := ⟨fun h => by omega⟩
      have hiD := ie4 D
      clear hD
      by_cases hb : M < P
      · rw [decide_eq_true hb] at hm
        go_wp2_with (first | refine wpList_load_row rfl 24 _ rfl _ rfl _ _ _ _ r1 Tryd.underlying24 rfl hiM ?_ | refine wpList_load_row rfl 24 _ rfl _ rfl _ _ _ _ hTg Tryd.underlying24 rfl hiP ?_)
        refine (hm _).mono ?_
        rintro _ w' ⟨rfl, hb2⟩
        replace r1 := r1.belowS hb2
        replace r2 := r2.belowS hb2
        replace hL := hL.trans (hb2.mono hL.size)
        replace hTk := hTk.below hb2
        have hs2 := hb2.size
        clear hTg hm hb2
        have r3 := Row.new w' 24 (C .u64 (Z 4))
        replace r1 := r1.alloc (.cells (C .u64 (Z 4)).toArray 24)
        replace r2 := r2.alloc (.cells (C .u64 (Z 4)).toArray 24)
        replace hTk := hTk.below (Below.more (Below.refl w'.heap.size w') (Nat.le_refl _) (.cells (C .u64 (Z 4)).toArray 24)).1
        replace hL := hL.alloc (by omega) (.cells (C .u64 (Z 4)).toArray 24)
        have hs3 := alloc_size w' (.cells (C .u64 (Z 4)).toArray 24)
        generalize hg3 : w'.heap.size = g3 at *
        go_wp2_with (first | refine wpList_alloc_row rfl 24 rfl _ z4 ?_ | (refine wpList_store_R rfl 24 _ _ rfl _ (C .u64 (wds D)) (by rw [← hg3]; rfl) rfl r3 hiD (by rw [e4]; rfl) (C_allL _ _) ?_; intro w5 r5 hg5 hz5))
        have r2' := r2.grown hg5 (by simp; omega)
        have r1' := r1.grown hg5 (by simp; omega)
        have hT' := hTk.grown hg5 (by omega)
        have hL' := below_grown hL hg5 (by omega) r3.lt
        clear r1 r2 hTk hL r3 hg5 r5
        go_roundw
        case rel => exact ⟨k + 1, M, by omega, by go_num, ⟨by rw [hMP.out, if_pos hb]⟩, hM, r1', r2', hT', hL', by omega⟩
        case measure => simp [intOf]; omega
      · rw [decide_eq_false hb] at hm
        go_wp2_with (first | refine wpList_load_row rfl 24 _ rfl _ rfl _ _ _ _ r1 Tryd.underlying24 rfl hiM ?_ | refine wpList_load_row rfl 24 _ rfl _ rfl _ _ _ _ hTg Tryd.underlying24 rfl hiP ?_)
        refine (hm _).mono ?_
        rintro _ w' ⟨rfl, hb2⟩
        replace r1 := r1.belowS hb2
        replace r2 := r2.belowS hb2
        replace hL := hL.trans (hb2.mono hL.size)
        replace hTk := hTk.below hb2
        have hs2 := hb2.size
        clear hTg hm hb2
        have r3 := Row.new w' 24 (C .u64 (Z 4))
        replace r1 := r1.alloc (.cells (C .u64 (Z 4)).toArray 24)
        replace r2 := r2.alloc (.cells (C .u64 (Z 4)).toArray 24)
        replace hTk := hTk.below (Below.more (Below.refl w'.heap.size w') (Nat.le_refl _) (.cells (C .u64 (Z 4)).toArray 24)).1
        replace hL := hL.alloc (by omega) (.cells (C .u64 (Z 4)).toArray 24)
        have hs3 := alloc_size w' (.cells (C .u64 (Z 4)).toArray 24)
        generalize hg3 : w'.heap.size = g3 at *
        go_wp2_with (first | refine wpList_alloc_row rfl 24 rfl _ z4 ?_ | (refine wpList_store_R rfl 24 _ _ rfl _ (C .u64 (wds D)) (by rw [← hg3]; rfl) rfl r3 hiD (by rw [e4]; rfl) (C_allL _ _) ?_; intro w5 r5 hg5 hz5) | refine wpList_load_row rfl 24 _ rfl _ rfl _ _ _ _ r5 Tryd.underlying24 rfl hiD ?_ | (refine wpList_store_R rfl 24 _ _ rfl _ (C .u64 (wds D)) rfl rfl (r1.grown hg5 (by simp; omega)) hiD (ee4 _ _) (C_allL _ _) ?_; intro w6 r6 hg6 hz6))
        have r2' := (r2.grown hg5 (by simp; omega)).grown hg6 (by simp)
        have hT' := (hTk.grown hg5 (by omega)).grown hg6 (by have := hT.lt; omega)
        have hL' := below_grown (below_grown hL hg5 (by omega) r3.lt) hg6 (by omega) (by omega)
        clear r1 r2 hTk hL r3 hg5 hg6 r5
        go_roundw
        case rel => exact ⟨k + 1, D, by omega, by go_num, ⟨by rw [hMP.out, if_neg hb, hDv.out hb]⟩, hDl, r6, r2', hT', hL', by omega⟩
        case measure => simp [intOf]; omega
    · have HK : Away (k = 2) := ⟨by omega⟩
      have dk : decide ((k : Int) < 2) = false := decide_eq_false (by omega)
      have hi4 := ie4 M
      clear hlt hk
      go_wp2_with (first | refine wpList_load_row rfl 24 _ rfl _ rfl _ _ _ _ r1 Tryd.underlying24 rfl hi4 ?_ | (refine wpList_store_R rfl 24 _ _ rfl _ (C .u64 (wds M)) rfl rfl r2 hi4 (ze4 _) (C_allL _ _) ?_; intro w5 hR5 hg5 hz5))
      exact result_row Tryd.results11 rfl hR5 Tryd.underlying24 rfl hi4 rfl ⟨by rw [← HK.out, ← HM.out], below_grown hL hg5 (by omega) r2.lt⟩
end Go.Proofs.YtgakpgcjninbgaaDoor.F
