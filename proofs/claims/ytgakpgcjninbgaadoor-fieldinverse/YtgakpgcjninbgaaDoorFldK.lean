/-
  Contracts of the document's halves, over this seat's translation. Conditions: each as it says.
-/
import Derived.Test.YtgakpgcjninbgaaDoorFldU
import Derived.Test.YtgakpgcjninbgaaDoorFldH
import Derived.BigQuiet
namespace Go.Proofs.YtgakpgcjninbgaaDoor.F
open Go.RowKit
set_option linter.unusedVariables false
set_option maxRecDepth 10000

theorem halves_any (A : Nat) (hA : A < 115792089237316195423570985008687907853269984665640564039457584007913129639936) (w : World) : Calls Tryd.prog 62 #[el A] w fun e w' => e = .returned (.agg (C .u64 (dig 4294967296 8 A)).toArray) ∧ Below w.heap.size w w' := by
  obtain ⟨w2, h2, r1, r2, hL, hS⟩ := rows2 w 24 55 (C .u64 (wds A)) (C .u64 (Z 8))
  have hdl := dig_length 4294967296 8 A
  have hx := wds_lo A
  unfold el
  go_enter Tryd.func62, Tryd.ntmps62
  go_upto_region 1 with (refine wpList_alloc_row rfl 55 rfl _ z4' ?_)
  try simp only [Act.put, List.setIfInBounds_toArray, List.set_cons_zero, List.set_cons_succ, alloc_size, h2]
  clear h2
  have r4 := Row.newAt w2 _ hS.symm 55 (C .u64 (Z 8))
  replace r1 := r1.alloc (.cells (C .u64 (Z 8)).toArray 55)
  replace r2 := r2.alloc (.cells (C .u64 (Z 8)).toArray 55)
  replace hL := hL.alloc (by omega) (.cells (C .u64 (Z 8)).toArray 55)
  go_wp2_with (first | refine wpList_alloc_row rfl 55 rfl _ z4' ?_ | refine wpList_build_Z rfl 55 rfl _ b8 ?_ | (refine wpList_store_R rfl 55 _ _ rfl _ (C .u64 (Z 8)) (by first | rfl | (rw [← hS]; rfl)) rfl r4 i8 rfl (C_allL _ _) ?_; intro w5 r5 hg5 hz5))
  replace r1 := r1.grown hg5 (by simp; omega)
  replace r2 := r2.grown hg5 (by simp)
  replace hL := below_grown hL hg5 (by omega) r4.lt
  clear r4 hg5
  rw [← upto_zero (dig 4294967296 8 A) 8] at r5
  go_loopw [4] (fun i wr => ∃ k : Nat, k ≤ 8 ∧ i = .int .i64 k ∧ Row wr w.heap.size 24 (C .u64 (wds A)) ∧ Row wr (w.heap.size + 1) 55 (C .u64 (Z 8)) ∧ Row wr (w.heap.size + 1 + 1) 55 (C .u64 (upto (dig 4294967296 8 A) 8 k)) ∧ Below w.heap.size w wr) (fun i _ => 8 - (intOf i).toNat)
  case atStart => exact ⟨0, Nat.zero_le _, rfl, r1, r2, r5, hL⟩
  case round =>
    clear r1 r2 r5 hL
    obtain ⟨k, hk, rfl, r1, r2, r5, hL⟩ := hrel
    by_cases hlt : k < 8
    · have c1 := r1.cell (k / 2)
      rw [C_get .u64 (by rw [wds_length]; omega)] at c1
      have bx := hx.getD (by decide) (k / 2)
      have he := half_of A k
      rw [← dig_getD hlt, ← wds_getD hA] at he
      have c5 := r5.cell k
      rw [C_get .u64 (by rw [upto_length hdl (by omega)]; omega)] at c5
      have hf := r5.frozen k
      generalize (upto (dig 4294967296 8 A) 8 k).getD k 0 = u at *
      generalize (wds A).getD (k / 2) 0 = x at *
      obtain ⟨q, hq⟩ : ∃ q, k / 2 = q := ⟨_, rfl⟩
      obtain ⟨r, hr⟩ : ∃ r, k % 2 = r := ⟨_, rfl⟩
      rw [hq] at c1
      rw [hr] at he
      obtain ⟨s, hs⟩ : ∃ s, 32 * r = s := ⟨_, rfl⟩
      rw [hs] at he
      obtain ⟨y, hy⟩ : ∃ y, x / 2 ^ s = y := ⟨_, rfl⟩
      rw [hy] at he
      have ey : (x : Int) / 2 ^ s = (y : Int) := by rw [← hy]; simp
      have hyl : y < 18446744073709551616 := by rw [← hy]; exact Nat.lt_of_le_of_lt (Nat.div_le_self _ _) bx
      obtain ⟨z, hz⟩ : ∃ z, y % 4294967296 = z := ⟨_, rfl⟩
      have ez : bits .and .u64 (y : Int) 4294967295 = (z : Int) := by
        have := u64_and_nat y 4294967295 hyl (by decide)
        rw [show ((4294967295 : Nat) : Int) = 4294967295 from rfl] at this
        rw [this, show (4294967295 : Nat) = 2 ^ 32 - 1 from rfl, Nat.and_two_pow_sub_one_eq_mod, ← hz]
      rw [hz] at he
      have q5 := upto_row (z := (z : Int)) r5 hdl hlt (by rw [he])
      have q1 := r1.other (i := k) (.int .u64 (z : Int)) (show w.heap.size ≠ w.heap.size + 1 + 1 by omega)
      have q2 := r2.other (i := k) (.int .u64 (z : Int)) (show w.heap.size + 1 ≠ w.heap.size + 1 + 1 by omega)
      have qL := hL.setCell (p := ⟨w.heap.size + 1 + 1, k, none⟩) (by simp; omega) (.int .u64 (z : Int))
      have dq : (k : Int).tdiv 2 = (q : Int) := by rw [Int.tdiv_eq_ediv_of_nonneg (by omega)]; omega
      have dq' : (k : Int) / 2 = (q : Int) := by omega
      have bq : (q : Int) < 4 := by omega
      have dr : (k : Int).tmod 2 = (r : Int) := by rw [Int.tmod_eq_emod_of_nonneg (by omega)]; omega
      have dr' : (k : Int) % 2 = (r : Int) := by omega
      have ds : IntKind.i64.wrap (32 * (r : Int)) = (s : Int) := by rw [IntWalk.i64_in _ ⟨by omega, by omega⟩]; omega
      have ds' : (32 : Int) * (r : Int) = (s : Int) := by omega
      have du : IntKind.u64.wrap (s : Int) = (s : Int) := by rw [IntKind.wrap_u64]; omega
      have bs : (s : Int) < 64 := by omega
      have bk : (k : Int) < 8 := by omega
      clear hq hr hs hy hyl bx hz he r1 r2 r5 hL
      go_wp2
      go_roundw
      case rel => exact ⟨k + 1, by omega, by go_num, q1, q2, q5, qL⟩
      case measure => simp [intOf]; omega
    · have HK : Away (k = 8) := ⟨by omega⟩
      have dk : decide ((k : Int) < 8) = false := decide_eq_false (by omega)
      rw [HK.out, upto_all hdl] at r5
      have hi : (C .u64 (dig 4294967296 8 A)).length = 8 := by rw [C_length, hdl]
      have hi8 : (Tryd.prog.info? 55).map (·.size) = some (C .u64 (dig 4294967296 8 A)).length := by rw [hi]; exact i8
      clear hlt hk
      go_wp2_with (first | refine wpList_load_row rfl 55 _ rfl _ rfl _ _ _ _ r5 Tryd.underlying55 rfl hi8 ?_ | (refine wpList_store_R rfl 55 _ _ rfl _ (C .u64 (dig 4294967296 8 A)) rfl rfl r2 hi8 (by rw [hi]; rfl) (C_allL _ _) ?_; intro w7 q7 hg7 hz7))
      exact result_row Tryd.results62 rfl q7 Tryd.underlying55 rfl hi8 rfl ⟨rfl, below_grown hL hg7 (by omega) r2.lt⟩
end Go.Proofs.YtgakpgcjninbgaaDoor.F
