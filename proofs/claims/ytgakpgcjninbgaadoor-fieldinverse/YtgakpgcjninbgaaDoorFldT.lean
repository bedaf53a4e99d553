/-
  Contracts of Bytes, the program's and the document's, over this seat's translation. Conditions: each as it says; the package's variables hold what their initialisers lay.
-/
import Derived.Test.YtgakpgcjninbgaaDoorFldS
namespace Go.Proofs.YtgakpgcjninbgaaDoor.F
open Go.RowKit
set_option linter.unusedVariables false
set_option maxRecDepth 10000

theorem lay_any (A : Nat) (hN : A < 115792089237316195423570985008687907853269984665640564039457584007913129639936) (w : World) : Calls Tryd.prog 49 #[el A] w fun e w' => e = .returned (.agg (C .u8 (dig 256 32 A)).toArray) ∧ Below w.heap.size w w' := by
  obtain ⟨w2, h2, r1, r2, hL, hS⟩ := rows2 w 24 32 (C .u64 (wds A)) (C .u8 (Z 32))
  have hdl := dig_length 256 32 A
  have hx := wds_lo A
  unfold el
  go_enter Tryd.func49, Tryd.ntmps49
  go_upto_region 1 with (refine wpList_alloc_row rfl 32 rfl _ z32 ?_)
  try simp only [Act.put, List.setIfInBounds_toArray, List.set_cons_zero, List.set_cons_succ, alloc_size, h2]
  clear h2
  have r4 := Row.newAt w2 _ hS.symm 32 (C .u8 (Z 32))
  replace r1 := r1.alloc (.cells (C .u8 (Z 32)).toArray 32)
  replace r2 := r2.alloc (.cells (C .u8 (Z 32)).toArray 32)
  replace hL := hL.alloc (by omega) (.cells (C .u8 (Z 32)).toArray 32)
  go_upto_region 2 with (first | refine wpList_alloc_row rfl 32 rfl _ z32 ?_ | refine wpList_build_Z rfl 32 rfl _ b32 ?_ | (refine wpList_store_R rfl 32 _ _ rfl _ (C .u8 (Z 32)) (by first | rfl | (rw [← hS]; rfl)) rfl r4 i32 rfl (C_allL _ _) ?_; intro w5 r5 hg5 hz5))
  replace r1 := r1.grown hg5 (by simp; omega)
  replace r2 := r2.grown hg5 (by simp)
  replace hL := below_grown hL hg5 (by omega) r4.lt
  clear r4 hg5
  rw [← upto_zero (dig 256 32 A) 32] at r5
  go_wp2
  go_loopw [4] (fun i wr => ∃ k : Nat, k ≤ 32 ∧ i = .int .i64 k ∧ Row wr w.heap.size 24 (C .u64 (wds A)) ∧ Row wr (w.heap.size + 1) 32 (C .u8 (Z 32)) ∧ Row wr (w.heap.size + 1 + 1) 32 (C .u8 (upto (dig 256 32 A) 32 k)) ∧ Below w.heap.size w wr) (fun i _ => 32 - (intOf i).toNat)
  case atStart => exact ⟨0, Nat.zero_le _, rfl, r1, r2, r5, hL⟩
  case round =>
    clear r1 r2 r5 hL
    obtain ⟨k, hk, rfl, r1, r2, r5, hL⟩ := hrel
    by_cases hlt : k < 32
    · have c1 := r1.cell (k / 8)
      rw [C_get .u64 (by rw [wds_length]; omega)] at c1
      have bx := hx.getD (by decide) (k / 8)
      have he := byte_of A k
      rw [← dig_getD hlt, ← wds_getD hN] at he
      have c5 := r5.cell k
      rw [C_get .u8 (by rw [upto_length hdl (by omega)]; omega)] at c5
      have hf := r5.frozen k
      generalize (upto (dig 256 32 A) 32 k).getD k 0 = u at *
      generalize (wds A).getD (k / 8) 0 = x at *
      obtain ⟨q, hq⟩ : ∃ q, k / 8 = q := ⟨_, rfl⟩
      obtain ⟨r, hr⟩ : ∃ r, k % 8 = r := ⟨_, rfl⟩
      rw [hq] at c1
      rw [hr] at he
      obtain ⟨s, hs⟩ : ∃ s, 8 * r = s := ⟨_, rfl⟩
      rw [hs] at he
      obtain ⟨y, hy⟩ : ∃ y, x / 2 ^ s = y := ⟨_, rfl⟩
      rw [hy] at he
      have ey : (x : Int) / 2 ^ s = (y : Int) := by rw [← hy]; simp
      obtain ⟨z, hz⟩ : ∃ z, y % 256 = z := ⟨_, rfl⟩
      have ez : IntKind.u8.wrap (y : Int) = (z : Int) := by rw [IntKind.wrap_u8]; omega
      have ez' : (y : Int) % 256 = (z : Int) := by omega
      rw [hz] at he
      have q5 := upto_row (z := (z : Int)) r5 hdl hlt (by rw [he])
      have q1 := r1.other (i := k) (.int .u8 (z : Int)) (show w.heap.size ≠ w.heap.size + 1 + 1 by omega)
      have q2 := r2.other (i := k) (.int .u8 (z : Int)) (show w.heap.size + 1 ≠ w.heap.size + 1 + 1 by omega)
      have qL := hL.setCell (p := ⟨w.heap.size + 1 + 1, k, none⟩) (by simp; omega) (.int .u8 (z : Int))
      have dq : (k : Int).tdiv 8 = (q : Int) := by rw [Int.tdiv_eq_ediv_of_nonneg (by omega)]; omega
      have dq' : (k : Int) / 8 = (q : Int) := by omega
      have bq : (q : Int) < 4 := by omega
      have dr : (k : Int).tmod 8 = (r : Int) := by rw [Int.tmod_eq_emod_of_nonneg (by omega)]; omega
      have dr' : (k : Int) % 8 = (r : Int) := by omega
      have ds : IntKind.i64.wrap (8 * (r : Int)) = (s : Int) := by rw [IntWalk.i64_in _ ⟨by omega, by omega⟩]; omega
      have ds' : 8 * (r : Int) = (s : Int) := by omega
      have du : IntKind.u64.wrap (s : Int) = (s : Int) := by rw [IntKind.wrap_u64]; omega
      have bs : (s : Int) < 64 := by omega
      have bk : (k : Int) < 32 := by omega
      clear hq hr hs hy bx hz he r1 r2 r5 hL
      go_wp2
      go_roundw
      case rel => exact ⟨k + 1, by omega, by go_num, q1, q2, q5, qL⟩
      case measure => simp [intOf]; omega
    · have HK : Away (k = 32) := ⟨by omega⟩
      have dk : decide ((k : Int) < 32) = false := decide_eq_false (by omega)
      rw [HK.out, upto_all hdl] at r5
      have hi : (C .u8 (dig 256 32 A)).length = 32 := by rw [C_length, hdl]
      have hi8 : (Tryd.prog.info? 32).map (·.size) = some (C .u8 (dig 256 32 A)).length := by rw [hi]; exact i32
      clear hlt hk
      go_wp2_with (first | refine wpList_load_row rfl 32 _ rfl _ rfl _ _ _ _ r5 Tryd.underlying32 rfl hi8 ?_ | (refine wpList_store_R rfl 32 _ _ rfl _ (C .u8 (dig 256 32 A)) rfl rfl r2 hi8 (by rw [hi]; rfl) (C_allL _ _) ?_; intro w7 q7 hg7 hz7))
      exact result_row Tryd.results49 rfl q7 Tryd.underlying32 rfl hi8 rfl ⟨rfl, below_grown hL hg7 (by omega) r2.lt⟩

set_option maxHeartbeats 1000000 in
theorem fbytes_any (A : Nat) (hA : A < 115792089237316195423570985008687907853269984665640564039457584007913129639936) (w : World) (hT : Tab w) : Calls Tryd.prog 28 #[el A] w fun e w' => e = .returned (.agg (C .u8 (dig 256 32 (A % P))).toArray) ∧ Below w.heap.size w w' := by
  obtain ⟨w2, h2, r1, r2, r5, hL, hS⟩ := rows3 w 24 32 32 (C .u64 (wds A)) (C .u8 (Z 32)) (C .u8 (Z 32))
  have hre := reduce_el A hA
  have hN := mod_lt_T A
  generalize A % P = N at *
  have hdl := dig_length 256 32 N
  have hx := wds_lo N
  unfold el
  go_enter Tryd.func28, Tryd.ntmps28
  go_upto_region 2 with (refine wpList_alloc_row rfl 32 rfl _ z32 ?_)
  try simp only [Act.put, List.setIfInBounds_toArray, List.set_cons_zero, List.set_cons_succ, alloc_size, h2]
  clear h2
  go_wp2_with (refine wpList_load_row rfl 24 _ rfl _ rfl _ _ _ _ r1 Tryd.underlying24 rfl (ie4 _) ?_)
  refine (hre _ (hT.below hL)).mono ?_
  rintro _ wn ⟨rfl, hb⟩
  replace r1 := r1.belowS hb
  replace r2 := r2.belowS hb
  replace r5 := r5.belowS hb
  replace hL := hL.trans (hb.mono hL.size)
  clear hb hre
  go_upto_region 3 with (refine wpList_store_R rfl 24 _ _ rfl _ (C .u64 (wds N)) rfl rfl r1 (ie4 _) (ee4 _ _) (C_allL _ _) ?_; intro w5 q1 hg5 hz5)
  replace r2 := r2.grown hg5 (by simp)
  replace r5 := r5.grown hg5 (by simp; omega)
  replace hL := below_grown hL hg5 (Nat.le_refl _) r1.lt
  clear r1 hg5 hz5
  have r1 := q1
  clear q1
  rw [← upto_zero (dig 256 32 N) 32] at r5
  go_wp2
  go_loopw [7] (fun i wr => ∃ k : Nat, k ≤ 32 ∧ i = .int .i64 k ∧ Row wr w.heap.size 24 (C .u64 (wds N)) ∧ Row wr (w.heap.size + 1) 32 (C .u8 (Z 32)) ∧ Row wr (w.heap.size + 1 + 1) 32 (C .u8 (upto (dig 256 32 N) 32 k)) ∧ Below w.heap.size w wr) (fun i _ => 32 - (intOf i).toNat)
  case atStart => exact ⟨0, Nat.zero_le _, rfl, r1, r2, r5, hL⟩
  case round =>
    clear r1 r2 r5 hL
    obtain ⟨k, hk, rfl, r1, r2, r5, hL⟩ := hrel
    by_cases hlt : k < 32
    · have c1 := r1.cell (k / 8)
      rw [C_get .u64 (by rw [wds_length]; omega)] at c1
      have bx := hx.getD (by decide) (k / 8)
      have he := byte_of N k
      rw [← dig_getD hlt, ← wds_getD hN] at he
      have c5 := r5.cell k
      rw [C_get .u8 (by rw [upto_length hdl (by omega)]; omega)] at c5
      have hf := r5.frozen k
      generalize (upto (dig 256 32 N) 32 k).getD k 0 = u at *
      generalize (wds N).getD (k / 8) 0 = x at *
      obtain ⟨q, hq⟩ : ∃ q, k / 8 = q := ⟨_, rfl⟩
      obtain ⟨r, hr⟩ : ∃ r, k % 8 = r := ⟨_, rfl⟩
      rw [hq] at c1
      rw [hr] at he
      obtain ⟨s, hs⟩ : ∃ s, 8 * r = s := ⟨_, rfl⟩
      rw [hs] at he
      obtain ⟨y, hy⟩ : ∃ y, x / 2 ^ s = y := ⟨_, rfl⟩
      rw [hy] at he
      have ey : (x : Int) / 2 ^ s = (y : Int) := by rw [← hy]; simp
      obtain ⟨z, hz⟩ : ∃ z, y % 256 = z := ⟨_, rfl⟩
      have ez : IntKind.u8.wrap (y : Int) = (z : Int) := by rw [IntKind.wrap_u8]; omega
      have ez' : (y : Int) % 256 = (z : Int) := by omega
      rw [hz] at he
      have q5 := upto_row (z := (z : Int)) r5 hdl hlt (by rw [he])
      have q1 := r1.other (i := k) (.int .u8 (z : Int)) (show w.heap.size ≠ w.heap.size + 1 + 1 by omega)
      have q2 := r2.other (i := k) (.int .u8 (z : Int)) (show w.heap.size + 1 ≠ w.heap.size + 1 + 1 by omega)
      have qL := hL.setCell (p := ⟨w.heap.size + 1 + 1, k, none⟩) (by simp; omega) (.int .u8 (z : Int))
      have dq : (k : Int).tdiv 8 = (q : Int) := by rw [Int.tdiv_eq_ediv_of_nonneg (by omega)]; omega
      have dq' : (k : Int) / 8 = (q : Int) := by omega
      have bq : (q : Int) < 4 := by omega
      have dr : (k : Int).tmod 8 = (r : Int) := by rw [Int.tmod_eq_emod_of_nonneg (by omega)]; omega
      have dr' : (k : Int) % 8 = (r : Int) := by omega
      have ds : IntKind.i64.wrap ((r : Int) * 8) = (s : Int) := by rw [IntWalk.i64_in _ ⟨by omega, by omega⟩]; omega
      have ds' : (r : Int) * 8 = (s : Int) := by omega
      have du : IntKind.u64.wrap (s : Int) = (s : Int) := by rw [IntKind.wrap_u64]; omega
      have bs : (s : Int) < 64 := by omega
      have bk : (k : Int) < 32 := by omega
      clear hq hr hs hy bx hz he r1 r2 r5 hL
      go_wp2
      go_roundw
      case rel => exact ⟨k + 1, by omega, by go_num, q1, q2, q5, qL⟩
      case measure => simp [intOf]; omega
    · have HK : Away (k = 32) := ⟨by omega⟩
      have dk : decide ((k : Int) < 32) = false := decide_eq_false (by omega)
      rw [HK.out, upto_all hdl] at r5
      have hi : (C .u8 (dig 256 32 N)).length = 32 := by rw [C_length, hdl]
      have hi8 : (Tryd.prog.info? 32).map (·.size) = some (C .u8 (dig 256 32 N)).length := by rw [hi]; exact i32
      clear hlt hk
      go_wp2_with (first | refine wpList_load_row rfl 32 _ rfl _ rfl _ _ _ _ r5 Tryd.underlying32 rfl hi8 ?_ | (refine wpList_store_R rfl 32 _ _ rfl _ (C .u8 (dig 256 32 N)) rfl rfl r2 hi8 (by rw [hi]; rfl) (C_allL _ _) ?_; intro w7 q7 hg7 hz7))
      exact result_row Tryd.results28 rfl q7 Tryd.underlying32 rfl hi8 rfl ⟨rfl, below_grown hL hg7 (by omega) r2.lt⟩

theorem lay_el (A : Nat) (hN : A < 115792089237316195423570985008687907853269984665640564039457584007913129639936) (w : World) : Calls Tryd.prog 49 #[.agg (C .u64 (wds A)).toArray] w fun e w' => e = .returned (.agg (C .u8 (dig 256 32 A)).toArray) ∧ Below w.heap.size w w' := lay_any A hN w
theorem frefbytes_any (A : Nat) (hA : A < 115792089237316195423570985008687907853269984665640564039457584007913129639936) (w : World) : Calls Tryd.prog 29 #[el A] w fun e w' => e = .returned (.agg (C .u8 (dig 256 32 (A % P))).toArray) ∧ Below w.heap.size w w' := by
  obtain ⟨w2, h2, r1, r2, hL, hS⟩ := rows2 w 24 32 (C .u64 (wds A)) (C .u8 (Z 32))
  have hre := refreduce_el A hA
  have hN := mod_lt_T A
  generalize A % P = N at *
  have hi : (C .u8 (dig 256 32 N)).length = 32 := by rw [C_length, dig_length]
  have hi8 : (Tryd.prog.info? 32).map (·.size) = some (C .u8 (dig 256 32 N)).length := by rw [hi]; exact i32
  unfold el
  go_enter Tryd.func29, Tryd.ntmps29
  go_upto_region 1 with (refine wpList_alloc_row rfl 32 rfl _ z32 ?_)
  try simp only [Act.put, List.setIfInBounds_toArray, List.set_cons_zero, List.set_cons_succ, alloc_size, h2]
  clear h2
  go_wp2_with (refine wpList_load_row rfl 24 _ rfl _ rfl _ _ _ _ r1 Tryd.underlying24 rfl (ie4 _) ?_)
  refine (hre _).mono ?_
  rintro _ wn ⟨rfl, hb⟩
  replace r2 := r2.belowS hb
  replace hL := hL.trans (hb.mono hL.size)
  clear hb hre r1
  go_wp2_with fail
  refine (lay_el N hN _).mono ?_
  rintro _ wn ⟨rfl, hb⟩
  replace r2 := r2.belowS hb
  replace hL := hL.trans (hb.mono hL.size)
  clear hb
  go_wp2_with (refine wpList_store_R rfl 32 _ _ rfl _ (C .u8 (dig 256 32 N)) rfl rfl r2 hi8 (by rw [hi]; rfl) (C_allL _ _) ?_; intro w7 q7 hg7 hz7)
  exact result_row Tryd.results29 rfl q7 Tryd.underlying32 rfl hi8 rfl ⟨rfl, below_grown hL hg7 (by omega) r2.lt⟩
end Go.Proofs.YtgakpgcjninbgaaDoor.F
