/-
  Contracts of the third hash's written and ended, over this seat's translation. Conditions: less than 128 bytes are left, less than 2^60 in all; the steps' numbers stand in the package's variable.
-/
import Derived.Test.YtmbaenodibfedaaDoorSh3D
namespace Go.Proofs.YtmbaenodibfedaaDoor.S3
open Go.RowKit
set_option linter.unusedVariables false
set_option maxRecDepth 10000

theorem out3_length (s : S8) : (out3 s).length = 64 := rfl
theorem out3_get (s : S8) (q r : Nat) (hq : q < 8) (hr : r < 8) : (out3 s).getD (8 * q + r) 0 = s.list.getD q 0 / 2 ^ (8 * (7 - r)) % 256 := by
  have hq' : q = 0 ∨ q = 1 ∨ q = 2 ∨ q = 3 ∨ q = 4 ∨ q = 5 ∨ q = 6 ∨ q = 7 := by omega
  have hr' : r = 0 ∨ r = 1 ∨ r = 2 ∨ r = 3 ∨ r = 4 ∨ r = 5 ∨ r = 6 ∨ r = 7 := by omega
  rcases hq' with rfl | rfl | rfl | rfl | rfl | rfl | rfl | rfl <;> rcases hr' with rfl | rfl | rfl | rfl | rfl | rfl | rfl | rfl <;> rfl
theorem list_lt {s : S8} (h : s.ok) (q : Nat) : s.list.getD q 0 < 18446744073709551616 := by
  have hl : Lo 18446744073709551616 s.list := by
    obtain ⟨h1, h2, h3, h4, h5, h6, h7, h8⟩ := h
    intro x hx
    simp only [S8.list, List.mem_cons, List.not_mem_nil, or_false] at hx
    rcases hx with rfl | rfl | rfl | rfl | rfl | rfl | rfl | rfl <;> assumption
  exact hl.getD (by decide) q
set_option maxRecDepth 10000 in
theorem written_any (s : S8) (hs : s.ok) (w : World) :
    Calls Tryd.prog 36 #[.agg (C .u64 s.list).toArray] w fun e w' => e = .returned (.agg (C .u8 (out3 s)).toArray) ∧ Below w.heap.size w w' := by
  have hA := ((Row.new w 69 (C .u64 s.list)).alloc (.cells (C .u8 (Z 64)).toArray 47)).alloc (.cells (C .u8 (Z 64)).toArray 47)
  have hB := (Row.newAt (w.alloc (.cells (C .u64 s.list).toArray 69)) (w.heap.size + 1) (by simp) 47 (C .u8 (Z 64))).alloc (.cells (C .u8 (Z 64)).toArray 47)
  have hC := Row.newAt ((w.alloc (.cells (C .u64 s.list).toArray 69)).alloc (.cells (C .u8 (Z 64)).toArray 47)) (w.heap.size + 1 + 1) (by simp) 47 (C .u8 (Z 64))
  have hL0 := Below.more (Below.refl w.heap.size w) (Nat.le_refl _) (.cells (C .u64 s.list).toArray 69)
  have hL1 := Below.more hL0.1 hL0.2 (.cells (C .u8 (Z 64)).toArray 47)
  have hL := (Below.more hL1.1 hL1.2 (.cells (C .u8 (Z 64)).toArray 47)).1
  clear hL0 hL1
  go_enter Tryd.func36, Tryd.ntmps36
  go_wp2_with (refine wpList_alloc_row rfl 47 rfl _ z64 ?_)
  generalize ((w.alloc (.cells (C .u64 s.list).toArray 69)).alloc (.cells (C .u8 (Z 64)).toArray 47)).alloc (.cells (C .u8 (Z 64)).toArray 47) = w3 at *
  go_loopw [5] (fun i wr => ∃ k : Nat, k ≤ 64 ∧ i = .int .i64 k ∧ Row wr w.heap.size 69 (C .u64 s.list) ∧ Row wr (w.heap.size + 1) 47 (C .u8 (Z 64)) ∧ Row wr (w.heap.size + 1 + 1) 47 (C .u8 (upto (out3 s) 64 k)) ∧ Below w.heap.size w wr) (fun i _ => 64 - (intOf i).toNat)
  case atStart => exact ⟨0, Nat.zero_le _, rfl, hA, hB, by rw [upto_zero]; exact hC, hL⟩
  case round =>
    clear hA hB hC hL
    obtain ⟨k, hk, rfl, hA, hB, hC, hL⟩ := hrel
    by_cases hlt : k < 64
    · have hc := hA.cell (k / 8)
      rw [C_get .u64 (show k / 8 < s.list.length by simp [S8.list]; omega)] at hc
      have HG := Away.mk (out3_get s (k / 8) (k % 8) (by omega) (by omega))
      have HK : Away (8 * (k / 8) + k % 8 = k) := ⟨by omega⟩
      rw [HK.out] at HG
      have hx := list_lt hs (k / 8)
      generalize s.list.getD (k / 8) 0 = x at *
      have hct : ∃ u, wr.cell? ⟨w.heap.size + 1 + 1, k, none⟩ = some u := by
        rw [hC.cell, C_get .u8 (by rw [upto_length (out3_length s) (by omega)]; omega)]; exact ⟨_, rfl⟩
      obtain ⟨u, hct⟩ := hct
      have hf := hC.frozen k
      have hr8 : k % 8 = 0 ∨ k % 8 = 1 ∨ k % 8 = 2 ∨ k % 8 = 3 ∨ k % 8 = 4 ∨ k % 8 = 5 ∨ k % 8 = 6 ∨ k % 8 = 7 := by omega
      rcases hr8 with hr | hr | hr | hr | hr | hr | hr | hr
      · have hri : (k : Int) % 8 = 0 := by omega
        rw [hr] at HG
        go_wp2
        go_roundw
        case rel => exact ⟨k + 1, by omega, by go_num, hA.other _ (by omega), hB.other _ (by omega), upto_row hC (out3_length s) hlt (by rw [HG.out]; simp <;> omega), hL.setCell (by simp; omega) _⟩
        case measure => simp [intOf]; omega
      · have hri : (k : Int) % 8 = 1 := by omega
        rw [hr] at HG
        go_wp2
        go_roundw
        case rel => exact ⟨k + 1, by omega, by go_num, hA.other _ (by omega), hB.other _ (by omega), upto_row hC (out3_length s) hlt (by rw [HG.out]; simp <;> omega), hL.setCell (by simp; omega) _⟩
        case measure => simp [intOf]; omega
      · have hri : (k : Int) % 8 = 2 := by omega
        rw [hr] at HG
        go_wp2
        go_roundw
        case rel => exact ⟨k + 1, by omega, by go_num, hA.other _ (by omega), hB.other _ (by omega), upto_row hC (out3_length s) hlt (by rw [HG.out]; simp <;> omega), hL.setCell (by simp; omega) _⟩
        case measure => simp [intOf]; omega
      · have hri : (k : Int) % 8 = 3 := by omega
        rw [hr] at HG
        go_wp2
        go_roundw
        case rel => exact ⟨k + 1, by omega, by go_num, hA.other _ (by omega), hB.other _ (by omega), upto_row hC (out3_length s) hlt (by rw [HG.out]; simp <;> omega), hL.setCell (by simp; omega) _⟩
        case measure => simp [intOf]; omega
      · have hri : (k : Int) % 8 = 4 := by omega
        rw [hr] at HG
        go_wp2
        go_roundw
        case rel => exact ⟨k + 1, by omega, by go_num, hA.other _ (by omega), hB.other _ (by omega), upto_row hC (out3_length s) hlt (by rw [HG.out]; simp <;> omega), hL.setCell (by simp; omega) _⟩
        case measure => simp [intOf]; omega
      · have hri : (k : Int) % 8 = 5 := by omega
        rw [hr] at HG
        go_wp2
        go_roundw
        case rel => exact ⟨k + 1, by omega, by go_num, hA.other _ (by omega), hB.other _ (by omega), upto_row hC (out3_length s) hlt (by rw [HG.out]; simp <;> omega), hL.setCell (by simp; omega) _⟩
        case measure => simp [intOf]; omega
      · have hri : (k : Int) % 8 = 6 := by omega
        rw [hr] at HG
        go_wp2
        go_roundw
        case rel => exact ⟨k + 1, by omega, by go_num, hA.other _ (by omega), hB.other _ (by omega), upto_row hC (out3_length s) hlt (by rw [HG.out]; simp <;> omega), hL.setCell (by simp; omega) _⟩
        case measure => simp [intOf]; omega
      · have hri : (k : Int) % 8 = 7 := by omega
        rw [hr] at HG
        go_wp2
        go_roundw
        case rel => exact ⟨k + 1, by omega, by go_num, hA.other _ (by omega), hB.other _ (by omega), upto_row hC (out3_length s) hlt (by rw [HG.out]; simp <;> omega), hL.setCell (by simp; omega) _⟩
        case measure => simp [intOf]; omega
    · obtain rfl : k = 64 := by omega
      rw [upto_all (out3_length s)] at hC
      have hOn := out3_length s
      obtain ⟨O, hO⟩ : ∃ O, out3 s = O := ⟨_, rfl⟩
      rw [hO] at hC hOn
      have HO := Away.mk hO
      have i64O : (Tryd.prog.info? 47).map (·.size) = some (C .u8 O).length := by rw [C_length, hOn]; exact i64
      have i64O' : (Tryd.prog.info? 47).map (·.size) = some (C .u8 O).toArray.size := by rw [C_size, hOn]; exact i64
      have h64O : (C .u8 (Z 64)).length = (C .u8 O).length := by rw [C_length, C_length, hOn, Z_length]
      clear hO
      have hlt2 := hB.lt
      go_wp2_with (first | refine wpList_load_row rfl 47 _ rfl _ rfl _ _ _ _ hC Tryd.underlying47 rfl i64O' ?_ | (refine wpList_store_R rfl 47 _ _ rfl _ (C .u8 O) rfl rfl hB i64O h64O (C_allL _ _) ?_; intro w5 hR5 hg5 hz5))
      exact result_row Tryd.results36 rfl hR5 Tryd.underlying47 rfl i64O rfl ⟨by rw [HO.out], below_grown hL hg5 (by omega) hlt2⟩

/-- The count, in sixteen bytes. -/
def cnt (c : Nat) : List Nat := [0, 0, 0, 0, 0, 0, 0, 0] ++ be8 c
/-- The last bytes, and what is behind them, in a block. -/
def lastB (l : List Nat) : List Nat := l ++ 128 :: Z (127 - l.length)
/-- The numbers behind the last bytes and the padding. -/
def fin3 (s : S8) (l : List Nat) (c : Nat) : S8 :=
  if l.length < 112 then blk3 s ((lastB l).take 112 ++ cnt c) else blk3 (blk3 s (lastB l)) (Z 112 ++ cnt c)
theorem lastB_length {l : List Nat} (h : l.length < 128) : (lastB l).length = 128 := by simp [lastB, Z]; omega
theorem lastB_lo {l : List Nat} (h : Lo 256 l) : Lo 256 (lastB l) := h.append (by
  intro x hx
  rcases List.mem_cons.1 hx with rfl | hx
  · decide
  · exact Z_lo (by decide) _ x hx)
theorem be_lt (c i : Nat) : be c i < 256 := Nat.mod_lt _ (by decide)
theorem be8_lo (c : Nat) : Lo 256 (be8 c) := by
  intro x hx
  simp only [be8, List.mem_cons, List.not_mem_nil, or_false] at hx
  rcases hx with rfl | rfl | rfl | rfl | rfl | rfl | rfl | rfl <;> exact be_lt _ _
theorem cnt_lo (c : Nat) : Lo 256 (cnt c) := by
  refine Lo.append ?_ (be8_lo c)
  intro x hx
  simp only [List.mem_cons, List.not_mem_nil, or_false, or_self] at hx
  subst hx; decide
/-- A block behind k rounds of the count. -/
def endw (B : List Nat) (c : Nat) : Nat → List Nat
  | 0 => B
  | k + 1 => ((endw B c k).set (127 - k) (be c k)).set (119 - k) 0
theorem endw_length (B : List Nat) (c k : Nat) : (endw B c k).length = B.length := by
  induction k with
  | zero => rfl
  | succ k ih => simp [endw, ih]
theorem endw_all {B : List Nat} (c : Nat) (h : B.length = 128) : endw B c 8 = B.take 112 ++ cnt c := by
  obtain ⟨x0, x1, x2, x3, x4, x5, x6, x7, x8, x9, x10, x11, x12, x13, x14, x15, hd⟩ : ∃ x0 x1 x2 x3 x4 x5 x6 x7 x8 x9 x10 x11 x12 x13 x14 x15, B.drop 112 = [x0, x1, x2, x3, x4, x5, x6, x7, x8, x9, x10, x11, x12, x13, x14, x15] := by
    have hl : (B.drop 112).length = 16 := by simp [h]
    match hB : B.drop 112, hl with
    | [x0, x1, x2, x3, x4, x5, x6, x7, x8, x9, x10, x11, x12, x13, x14, x15], _ => exact ⟨x0, x1, x2, x3, x4, x5, x6, x7, x8, x9, x10, x11, x12, x13, x14, x15, rfl⟩
  have hP : (B.take 112).length = 112 := by simp [h]
  have hB : B = B.take 112 ++ [x0, x1, x2, x3, x4, x5, x6, x7, x8, x9, x10, x11, x12, x13, x14, x15] := by rw [← hd, List.take_append_drop]
  generalize B.take 112 = P at *
  subst hB
  have st : ∀ (ys : List Nat) (i x : Nat), (P ++ ys).set (112 + i) x = P ++ ys.set i x := by
    intro ys i x
    rw [List.set_append_right _ _ (by omega), hP]; simp
  simp only [endw]
  rw [show 127 - 0 = 112 + 15 from rfl, st, show 119 - 0 = 112 + 7 from rfl, st, show 127 - 1 = 112 + 14 from rfl, st, show 119 - 1 = 112 + 6 from rfl, st, show 127 - 2 = 112 + 13 from rfl, st, show 119 - 2 = 112 + 5 from rfl, st, show 127 - 3 = 112 + 12 from rfl, st, show 119 - 3 = 112 + 4 from rfl, st, show 127 - 4 = 112 + 11 from rfl, st, show 119 - 4 = 112 + 3 from rfl, st, show 127 - 5 = 112 + 10 from rfl, st, show 119 - 5 = 112 + 2 from rfl, st, show 127 - 6 = 112 + 9 from rfl, st, show 119 - 6 = 112 + 1 from rfl, st, show 127 - 7 = 112 + 8 from rfl, st, show 119 - 7 = 112 + 0 from rfl, st]
  rfl

theorem mul64_any (x : Nat) (hx : x < 1152921504606846976) (w : World) :
    Calls Tryd.prog 72 #[.int .u64 (x : Int), .int .u64 8] w fun e w' => e = .returned (.tuple #[.int .u64 0, .int .u64 (8 * x : Nat)]) ∧ w = w' := by
  obtain ⟨x0, h0⟩ : ∃ x0, x % 4294967296 = x0 := ⟨_, rfl⟩
  obtain ⟨x1, h1⟩ : ∃ x1, x / 4294967296 = x1 := ⟨_, rfl⟩
  have a0 : bits .and .u64 (x : Int) 4294967295 = (x0 : Int) := by
    have := u64_and_nat x 4294967295 (by omega) (by decide)
    rw [show ((4294967295 : Nat) : Int) = 4294967295 from rfl] at this
    rw [this, show (4294967295 : Nat) = 2 ^ 32 - 1 from rfl, Nat.and_two_pow_sub_one_eq_mod, show (2 : Nat) ^ 32 = 4294967296 from rfl, h0]
  have a1 : bits .and .u64 8 4294967295 = 8 := by decide
  have s1 : (x : Int) / 4294967296 = (x1 : Int) := by omega
  obtain ⟨w0, hw0, e0⟩ : ∃ w0 : Nat, IntKind.u64.wrap ((x0 : Int) * 8) = (w0 : Int) ∧ w0 = x0 * 8 := ⟨x0 * 8, by rw [IntKind.wrap_u64]; omega, rfl⟩
  obtain ⟨t0, ht0⟩ : ∃ t0, w0 / 4294967296 = t0 := ⟨_, rfl⟩
  have s0 : (w0 : Int) / 4294967296 = (t0 : Int) := by omega
  obtain ⟨p1, hp1, ep1⟩ : ∃ p1 : Nat, IntKind.u64.wrap ((x1 : Int) * 8) = (p1 : Int) ∧ p1 = x1 * 8 := ⟨x1 * 8, by rw [IntKind.wrap_u64]; omega, rfl⟩
  obtain ⟨t, ht, et⟩ : ∃ t : Nat, IntKind.u64.wrap ((p1 : Int) + (t0 : Int)) = (t : Int) ∧ t = p1 + t0 := ⟨p1 + t0, by rw [IntKind.wrap_u64]; omega, rfl⟩
  have htl : t < 4294967296 := by omega
  have a2 : bits .and .u64 (t : Int) 4294967295 = (t : Int) := by
    have := u64_and_nat t 4294967295 (by omega) (by decide)
    rw [show ((4294967295 : Nat) : Int) = 4294967295 from rfl] at this
    rw [this, show (4294967295 : Nat) = 2 ^ 32 - 1 from rfl, Nat.and_two_pow_sub_one_eq_mod, show (2 : Nat) ^ 32 = 4294967296 from rfl, Nat.mod_eq_of_lt htl]
  have s2 : (t : Int) / 4294967296 = 0 := by omega
  have l0 : IntKind.u64.wrap ((x : Int) * 8) = ((8 * x : Nat) : Int) := by rw [IntKind.wrap_u64]; omega
  have wt : IntKind.u64.wrap (t : Int) = (t : Int) := by rw [IntKind.wrap_u64]; omega
  generalize 8 * x = c at *
  clear h0 h1 e0 ep1 ht0 et
  go_enter Tryd.func72, Tryd.ntmps72
  go_wp2
  go_ret2
  exact ⟨rfl, rfl⟩

set_option maxRecDepth 10000 in
set_option maxHeartbeats 800000 in
theorem ended_any (s : S8) (hs : s.ok) (v : Value) (l : List Nat) (N : Nat) (w : World) (hv : SlV w v (C .u8 l)) (hl : Lo 256 l) (hn : l.length < 128) (hN : N < 1152921504606846976) (hTab : Tab w) :
    Calls Tryd.prog 57 #[.agg (C .u64 s.list).toArray, v, .int .u64 (N : Int)] w fun e w' => e = .returned (.agg (C .u64 (fin3 s l (8 * N % 18446744073709551616)).list).toArray) ∧ Below w.heap.size w w' := by
  obtain ⟨m, hm⟩ : ∃ m, l.length = m := ⟨_, rfl⟩
  obtain ⟨sa, sc, rfl, h1, h2⟩ := hv.shp hm
  have hA := ((Row.new w 69 (C .u64 s.list)).alloc (.cells (C .u64 (Z 8)).toArray 69)).alloc (.cells (C .u8 (Z 128)).toArray 92)
  have hB := (Row.newAt (w.alloc (.cells (C .u64 s.list).toArray 69)) (w.heap.size + 1) (by simp) 69 (C .u64 (Z 8))).alloc (.cells (C .u8 (Z 128)).toArray 92)
  have hC := Row.newAt ((w.alloc (.cells (C .u64 s.list).toArray 69)).alloc (.cells (C .u64 (Z 8)).toArray 69)) (w.heap.size + 1 + 1) (by simp) 92 (C .u8 (Z 128))
  have hL0 := Below.more (Below.refl w.heap.size w) (Nat.le_refl _) (.cells (C .u64 s.list).toArray 69)
  have hL1 := Below.more hL0.1 hL0.2 (.cells (C .u64 (Z 8)).toArray 69)
  have hL := (Below.more hL1.1 hL1.2 (.cells (C .u8 (Z 128)).toArray 92)).1
  clear hL0 hL1
  have hv3 := hv.below hL
  have hmi : (m : Int) < 128 := by omega
  go_enter Tryd.func57, Tryd.ntmps57
  go_upto_region 2 with (first | refine wpList_alloc_row rfl 69 rfl _ z8 ?_ | refine wpList_alloc_row rfl 92 rfl _ z128 ?_)
  simp only [Act.put, List.setIfInBounds_toArray, List.set_cons_zero, List.set_cons_succ, alloc_size]
  generalize ((w.alloc (.cells (C .u64 s.list).toArray 69)).alloc (.cells (C .u64 (Z 8)).toArray 69)).alloc (.cells (C .u8 (Z 128)).toArray 92) = w3 at *
  have hmin : min m 128 = m := by omega
  have hZn : (C .u8 (Z 128)).length = 128 := by rw [C_length, Z_length]
  have hcat : (C .u8 l).take 128 ++ (C .u8 (Z 128)).drop m = C .u8 (l ++ Z (128 - m)) := by
    rw [List.take_of_length_le (by rw [C_length]; omega), ← C_drop, C_append]
    rw [Z_drop]
  have hgm : (C .u8 (l ++ Z (128 - m)))[m]? = some (.int .u8 0) := by
    rw [C_get .u8 (by simp [Z]; omega)]
    rw [← hm]
    have : (l ++ Z (128 - l.length)).getD l.length 0 = 0 := by
      obtain ⟨j, hj⟩ : ∃ j, 128 - l.length = j + 1 := ⟨127 - l.length, by omega⟩
      rw [Z, hj, List.replicate_succ]; exact getD_at _ _ _
    rw [this]; rfl
  have hset : (C .u8 (l ++ Z (128 - m))).set m (.int .u8 128) = C .u8 (lastB l) := by
    have := C_set .u8 (l ++ Z (128 - m)) m 128
    rw [show ((128 : Nat) : Int) = 128 from rfl] at this
    rw [← this, lastB, ← hm]
    congr 1
    obtain ⟨j, hj⟩ : ∃ j, 128 - l.length = j + 1 := ⟨127 - l.length, by omega⟩
    rw [Z, hj, List.replicate_succ, show 127 - l.length = j by omega]
    exact set_at _ _ _ _
  go_upto_if 19 with (refine wpList_copy_R rfl _ _ 22 rfl 5 Tryd.underlying22 i1b (w.heap.size + 1 + 1) 128 128 m (C .u8 (Z 128)) (C .u8 l) sa sc rfl rfl hC hv3 hZn (C_allL _ _) ?_; intro w4 hC4 hg4 hz4; rw [hmin]; rw [hcat] at hC4; have hct := hC4.cell m; rw [hgm] at hct; have hf4 := hC4.frozen m; have hA4 := hA.grown hg4 (by simp; omega); have hB4 := hB.grown hg4 (by simp); have hL4 := below_grown hL hg4 (by omega) hC.lt)
  have hC5 := hC4.set m (.int .u8 128)
  rw [hset] at hC5
  have hA5 := hA4.other (i := m) (.int .u8 128) (show w.heap.size ≠ w.heap.size + 1 + 1 by omega)
  have hB5 := hB4.other (i := m) (.int .u8 128) (show w.heap.size + 1 ≠ w.heap.size + 1 + 1 by omega)
  have hL5 := hL4.setCell (p := ⟨w.heap.size + 1 + 1, m, none⟩) (by simp; omega) (.int .u8 128)
  clear hcat hgm hset hC4 hA4 hB4 hL4 hct hf4 hg4 hz4 hA hB hC hL hv hv3
  generalize w4.setCell ⟨w.heap.size + 1 + 1, m, none⟩ (.int .u8 128) = w5 at *
  have hBl := lastB_lo hl
  have hBn := lastB_length hn
  obtain ⟨c, hc⟩ : ∃ c, 8 * N % 18446744073709551616 = c := ⟨_, rfl⟩
  have HCc := Away.mk hc
  go_cut [8] (fun v8 wc => v8 = .int .i64 (m : Int) ∧ ∃ (S : S8) (B : List Nat), S.ok ∧ Lo 256 B ∧ B.length = 128 ∧ Away (fin3 s l c = blk3 S (B.take 112 ++ cnt c)) ∧ Row wc w.heap.size 69 (C .u64 S.list) ∧ Row wc (w.heap.size + 1) 69 (C .u64 (Z 8)) ∧ Row wc (w.heap.size + 1 + 1) 92 (C .u8 B) ∧ Below w.heap.size w wc)
  case first =>
    by_cases h56 : m < 112
    · have d1 : decide ((112 : Int) < (m : Int) + 1) = false := decide_eq_false (by omega)
      have HF : Away (fin3 s l c = blk3 s ((lastB l).take 112 ++ cnt c)) := ⟨by rw [fin3, if_pos (by omega)]⟩
      go_wp2
      go_meet
      case rel => exact ⟨rfl, s, lastB l, hs, hBl, hBn, HF, hA5, hB5, hC5, hL5⟩
    · have d1 : decide ((112 : Int) < (m : Int) + 1) = true := decide_eq_true (by omega)
      have HF : Away (fin3 s l c = blk3 (blk3 s (lastB l)) ((Z 128).take 112 ++ cnt c)) := ⟨by rw [fin3, if_neg (by omega)]; rfl⟩
      obtain ⟨T, hT⟩ : ∃ T, blk3 s (lastB l) = T := ⟨_, rfl⟩
      have hTo : T.ok := hT ▸ blk3_ok _ _
      rw [hT] at HF
      have HT := Away.mk hT
      clear hT
      have i5T : (Tryd.prog.info? 69).map (·.size) = some (C .u64 T.list).length := i8
      have i5s : (Tryd.prog.info? 69).map (·.size) = some (C .u64 s.list).toArray.size := i8
      have h55 : (C .u64 s.list).length = (C .u64 T.list).length := rfl
      have hl64 : (Tryd.prog.info? 92).map (·.size) = some (C .u8 (lastB l)).toArray.size := by rw [C_size, hBn]; exact i128
      have i64Z : (Tryd.prog.info? 92).map (·.size) = some (C .u8 (Z 128)).length := by rw [C_length, Z_length]; exact i128
      go_wp2_with (first | refine wpList_load_row rfl 69 _ rfl _ rfl _ _ _ _ hA5 Tryd.underlying69 rfl i5s ?_ | refine wpList_load_row rfl 92 _ rfl _ rfl _ _ _ _ hC5 Tryd.underlying92 rfl hl64 ?_)
      refine (block_any s hs (lastB l) hBl hBn _ (hTab.below hL5)).mono ?_
      rintro _ w6 ⟨rfl, hb6⟩
      rw [HT.out]
      have hA6 := hA5.belowS hb6
      have hB6 := hB5.belowS hb6
      have hC6 := hC5.belowS hb6
      have hL6 := hL5.trans (hb6.mono hL5.size)
      have hlt6 := hA6.lt
      have hlt6' := hC6.lt
      clear hA5 hB5 hC5 hL5 hb6
      have hz64 : (C .u8 (lastB l)).length = (C .u8 (Z 128)).length := by rw [C_length, hBn, C_length, Z_length]
      go_wp2_with (first | (refine wpList_store_R rfl 69 _ _ rfl _ (C .u64 T.list) rfl rfl hA6 i5T h55 (C_allL _ _) ?_; intro w7 hA7 hg7 hz7; have hB7 := hB6.grown hg7 (by simp); have hC7 := hC6.grown hg7 (by simp; omega); have hL7 := below_grown hL6 hg7 (by omega) hlt6) | refine wpList_build_Z rfl 92 rfl _ b128 ?_ | (refine wpList_store_R rfl 92 _ _ rfl _ (C .u8 (Z 128)) rfl rfl hC7 i64Z hz64 (C_allL _ _) ?_; intro w8 hC8 hg8 hz8; have hA8 := hA7.grown hg8 (by simp; omega); have hB8 := hB7.grown hg8 (by simp); have hL8 := below_grown hL7 hg8 (by omega) (by omega)))
      go_meet
      case rel => exact ⟨rfl, T, Z 128, hTo, Z_lo (by decide) _, Z_length _, HF, hA8, hB8, hC8, hL8⟩
  case rest =>
    obtain ⟨rfl, S, B, hSo, hBl', hBn', HF, hA6, hB6, hC6, hL6⟩ := hcut
    clear hA5 hB5 hC5 hL5 hBl hBn
    have hcm : c < 18446744073709551616 := by omega
    have HC8 : Away (8 * N = c) := ⟨by omega⟩
    clear hc
    go_wp2_with fail
    refine (mul64_any N hN _).mono ?_
    rintro _ w6 ⟨rfl, rfl⟩
    rw [HC8.out]
    go_wp2
    go_loopw [29] (fun i wr => ∃ k : Nat, k ≤ 8 ∧ i = .int .i64 k ∧ Row wr w.heap.size 69 (C .u64 S.list) ∧ Row wr (w.heap.size + 1) 69 (C .u64 (Z 8)) ∧ Row wr (w.heap.size + 1 + 1) 92 (C .u8 (endw B c k)) ∧ Below w.heap.size w wr) (fun i _ => 8 - (intOf i).toNat)
    case atStart => exact ⟨0, Nat.zero_le _, rfl, hA6, hB6, hC6, hL6⟩
    case round =>
      clear hA6 hB6 hC6 hL6
      obtain ⟨k, hk, rfl, hA6, hB6, hC6, hL6⟩ := hrel
      by_cases hlt : k < 8
      · obtain ⟨j, hj, hji⟩ : ∃ j : Nat, 127 - k = j ∧ (127 : Int) - (k : Int) = (j : Int) := ⟨127 - k, rfl, by omega⟩
        obtain ⟨i, hi, hii⟩ : ∃ i : Nat, 119 - k = i ∧ (119 : Int) - (k : Int) = (i : Int) := ⟨119 - k, rfl, by omega⟩
        have hj64 : (j : Int) < 128 := by omega
        have hi64 : (i : Int) < 128 := by omega
        have hct : ∃ u, wr.cell? ⟨w.heap.size + 1 + 1, j, none⟩ = some u := by
          rw [hC6.cell, C_get .u8 (by rw [endw_length]; omega)]; exact ⟨_, rfl⟩
        obtain ⟨u, hct⟩ := hct
        have hf := hC6.frozen j
        have HW : Away (endw B c (k + 1) = ((endw B c k).set j (be c k)).set i 0) := ⟨by rw [← hj, ← hi]; rfl⟩
        have HJ := Away.mk hj
        have HI := Away.mk hi
        have HBn : Away ((endw B c k).length = 128) := ⟨by rw [endw_length]; exact hBn'⟩
        have hzk : (0 : Int) / 2 ^ (k * 8) = 0 := Int.zero_ediv _
        clear hj hi
        go_upto_region 12 with fail
        have HV : Away ((c : Int) / 2 ^ (k * 8) % 256 = (be c k : Nat)) := ⟨by rw [be, Nat.mul_comm 8 k]; simp⟩
        rw [HV.out]
        have hA7 := hA6.other (i := j) (.int .u8 (be c k : Nat)) (show w.heap.size ≠ w.heap.size + 1 + 1 by omega)
        have hB7 := hB6.other (i := j) (.int .u8 (be c k : Nat)) (show w.heap.size + 1 ≠ w.heap.size + 1 + 1 by omega)
        have hC7 := hC6.set j (.int .u8 (be c k : Nat))
        have hL7 := hL6.setCell (p := ⟨w.heap.size + 1 + 1, j, none⟩) (by simp; omega) (.int .u8 (be c k : Nat))
        rw [← C_set] at hC7
        clear hA6 hB6 hC6 hL6 hct hf HV
        generalize wr.setCell ⟨w.heap.size + 1 + 1, j, none⟩ (.int .u8 (be c k : Nat)) = w7 at *
        have hct : ∃ u, w7.cell? ⟨w.heap.size + 1 + 1, i, none⟩ = some u := by
          rw [hC7.cell, C_get .u8 (by rw [List.length_set, HBn.out]; omega)]; exact ⟨_, rfl⟩
        obtain ⟨u, hct⟩ := hct
        have hf := hC7.frozen i
        go_wp2
        go_roundw
        case rel => exact ⟨k + 1, by omega, by go_num, hA7.other _ (by omega), hB7.other _ (by omega), by rw [HW.out, C_set]; exact hC7.set _ _, hL7.setCell (by simp; omega) _⟩
        case measure => simp [intOf]; omega
      · obtain rfl : k = 8 := by omega
        rw [endw_all c hBn'] at hC6
        have hQl : Lo 256 (B.take 112 ++ cnt c) := (hBl'.take 112).append (cnt_lo c)
        have hQn : (B.take 112 ++ cnt c).length = 128 := by rw [List.length_append, List.length_take, hBn']; rfl
        generalize B.take 112 ++ cnt c = Q at *
        obtain ⟨T, hT⟩ : ∃ T, blk3 S Q = T := ⟨_, rfl⟩
        rw [hT] at HF
        have HT := Away.mk hT
        clear hT
        have i5T : (Tryd.prog.info? 69).map (·.size) = some (C .u64 T.list).length := i8
        have i5S : (Tryd.prog.info? 69).map (·.size) = some (C .u64 S.list).toArray.size := i8
        have h55 : (C .u64 (Z 8)).length = (C .u64 T.list).length := rfl
        have hl64 : (Tryd.prog.info? 92).map (·.size) = some (C .u8 Q).toArray.size := by rw [C_size, hQn]; exact i128
        go_wp2_with (first | refine wpList_load_row rfl 69 _ rfl _ rfl _ _ _ _ hA6 Tryd.underlying69 rfl i5S ?_ | refine wpList_load_row rfl 92 _ rfl _ rfl _ _ _ _ hC6 Tryd.underlying92 rfl hl64 ?_)
        refine (block_any S hSo Q hQl hQn _ (hTab.below hL6)).mono ?_
        rintro _ w6 ⟨rfl, hb6⟩
        rw [HT.out]
        have hB7 := hB6.belowS hb6
        have hL7 := hL6.trans (hb6.mono hL6.size)
        have hlt7 := hB7.lt
        clear hA6 hB6 hC6 hL6 hb6
        go_wp2_with (refine wpList_store_R rfl 69 _ _ rfl _ (C .u64 T.list) rfl rfl hB7 i5T h55 (C_allL _ _) ?_; intro w7 hB8 hg8 hz8)
        exact result_row Tryd.results57 rfl hB8 Tryd.underlying69 rfl i5T rfl ⟨by rw [HCc.out, HF.out], below_grown hL7 hg8 (by omega) hlt7⟩
end Go.Proofs.YtmbaenodibfedaaDoor.S3
