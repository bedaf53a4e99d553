/-
  Contracts of the second hash's written and ended, over this seat's translation. Conditions: less than 64 bytes are left; the steps' numbers stand in the package's variable.
-/
import Derived.Test.YtmbaenodibfedaaDoorSh2D
namespace Go.Proofs.YtmbaenodibfedaaDoor.S2
open Go.RowKit
open S1 (or_lt32 and_lt32 xor_lt32 shr_lt32 mod_lt32 wd wd_lt be be8 zs1 pad1 out4 not32)
set_option linter.unusedVariables false
set_option maxRecDepth 10000

theorem out2_length (s : S8) : (out2 s).length = 32 := rfl
theorem out2_get (s : S8) (q r : Nat) (hq : q < 8) (hr : r < 4) : (out2 s).getD (4 * q + r) 0 = s.list.getD q 0 / 2 ^ (8 * (3 - r)) % 256 := by
  have hq' : q = 0 ∨ q = 1 ∨ q = 2 ∨ q = 3 ∨ q = 4 ∨ q = 5 ∨ q = 6 ∨ q = 7 := by omega
  have hr' : r = 0 ∨ r = 1 ∨ r = 2 ∨ r = 3 := by omega
  rcases hq' with rfl | rfl | rfl | rfl | rfl | rfl | rfl | rfl <;> rcases hr' with rfl | rfl | rfl | rfl <;> first | rfl | (simp [out2, out4, S8.list])
theorem list_lt {s : S8} (h : s.ok) (q : Nat) : s.list.getD q 0 < 4294967296 := by
  have hl : Lo 4294967296 s.list := by
    obtain ⟨h1, h2, h3, h4, h5, h6, h7, h8⟩ := h
    intro x hx
    simp only [S8.list, List.mem_cons, List.not_mem_nil, or_false] at hx
    rcases hx with rfl | rfl | rfl | rfl | rfl | rfl | rfl | rfl <;> assumption
  exact hl.getD (by decide) q
theorem written_any (s : S8) (hs : s.ok) (w : World) :
    Calls Tryd.prog 33 #[.agg (C .u32 s.list).toArray] w fun e w' => e = .returned (.agg (C .u8 (out2 s)).toArray) ∧ Below w.heap.size w w' := by
  have hA := ((Row.new w 65 (C .u32 s.list)).alloc (.cells (C .u8 (Z 32)).toArray 43)).alloc (.cells (C .u8 (Z 32)).toArray 43)
  have hB := (Row.newAt (w.alloc (.cells (C .u32 s.list).toArray 65)) (w.heap.size + 1) (by simp) 43 (C .u8 (Z 32))).alloc (.cells (C .u8 (Z 32)).toArray 43)
  have hC := Row.newAt ((w.alloc (.cells (C .u32 s.list).toArray 65)).alloc (.cells (C .u8 (Z 32)).toArray 43)) (w.heap.size + 1 + 1) (by simp) 43 (C .u8 (Z 32))
  have hL0 := Below.more (Below.refl w.heap.size w) (Nat.le_refl _) (.cells (C .u32 s.list).toArray 65)
  have hL1 := Below.more hL0.1 hL0.2 (.cells (C .u8 (Z 32)).toArray 43)
  have hL := (Below.more hL1.1 hL1.2 (.cells (C .u8 (Z 32)).toArray 43)).1
  clear hL0 hL1
  go_enter Tryd.func33, Tryd.ntmps33
  go_wp2_with (refine wpList_alloc_row rfl 43 rfl _ z32 ?_)
  generalize ((w.alloc (.cells (C .u32 s.list).toArray 65)).alloc (.cells (C .u8 (Z 32)).toArray 43)).alloc (.cells (C .u8 (Z 32)).toArray 43) = w3 at *
  go_loopw [5] (fun i wr => ∃ k : Nat, k ≤ 32 ∧ i = .int .i64 k ∧ Row wr w.heap.size 65 (C .u32 s.list) ∧ Row wr (w.heap.size + 1) 43 (C .u8 (Z 32)) ∧ Row wr (w.heap.size + 1 + 1) 43 (C .u8 (upto (out2 s) 32 k)) ∧ Below w.heap.size w wr) (fun i _ => 32 - (intOf i).toNat)
  case atStart => exact ⟨0, Nat.zero_le _, rfl, hA, hB, by rw [upto_zero]; exact hC, hL⟩
  case round =>
    clear hA hB hC hL
    obtain ⟨k, hk, rfl, hA, hB, hC, hL⟩ := hrel
    by_cases hlt : k < 32
    · have hc := hA.cell (k / 4)
      rw [C_get .u32 (show k / 4 < s.list.length by simp [S8.list]; omega)] at hc
      have HG := Away.mk (out2_get s (k / 4) (k % 4) (by omega) (by omega))
      have HK : Away (4 * (k / 4) + k % 4 = k) := ⟨by omega⟩
      rw [HK.out] at HG
      have hx := list_lt hs (k / 4)
      generalize s.list.getD (k / 4) 0 = x at *
      have hct : ∃ u, wr.cell? ⟨w.heap.size + 1 + 1, k, none⟩ = some u := by
        rw [hC.cell, C_get .u8 (by rw [upto_length (out2_length s) (by omega)]; omega)]; exact ⟨_, rfl⟩
      obtain ⟨u, hct⟩ := hct
      have hf := hC.frozen k
      have hr4 : k % 4 = 0 ∨ k % 4 = 1 ∨ k % 4 = 2 ∨ k % 4 = 3 := by omega
      rcases hr4 with hr | hr | hr | hr
      · have hri : (k : Int) % 4 = 0 := by omega
        rw [hr] at HG
        go_wp2
        go_roundw
        case rel => exact ⟨k + 1, by omega, by go_num, hA.other _ (by omega), hB.other _ (by omega), upto_row hC (out2_length s) hlt (by rw [HG.out]; simp <;> omega), hL.setCell (by simp; omega) _⟩
        case measure => simp [intOf]; omega
      · have hri : (k : Int) % 4 = 1 := by omega
        rw [hr] at HG
        go_wp2
        go_roundw
        case rel => exact ⟨k + 1, by omega, by go_num, hA.other _ (by omega), hB.other _ (by omega), upto_row hC (out2_length s) hlt (by rw [HG.out]; simp <;> omega), hL.setCell (by simp; omega) _⟩
        case measure => simp [intOf]; omega
      · have hri : (k : Int) % 4 = 2 := by omega
        rw [hr] at HG
        go_wp2
        go_roundw
        case rel => exact ⟨k + 1, by omega, by go_num, hA.other _ (by omega), hB.other _ (by omega), upto_row hC (out2_length s) hlt (by rw [HG.out]; simp <;> omega), hL.setCell (by simp; omega) _⟩
        case measure => simp [intOf]; omega
      · have hri : (k : Int) % 4 = 3 := by omega
        rw [hr] at HG
        go_wp2
        go_roundw
        case rel => exact ⟨k + 1, by omega, by go_num, hA.other _ (by omega), hB.other _ (by omega), upto_row hC (out2_length s) hlt (by rw [HG.out]; simp <;> omega), hL.setCell (by simp; omega) _⟩
        case measure => simp [intOf]; omega
    · obtain rfl : k = 32 := by omega
      rw [upto_all (out2_length s)] at hC
      have hlt2 := hB.lt
      go_wp2_with (first | refine wpList_load_row rfl 43 _ rfl _ rfl _ _ _ _ hC Tryd.underlying43 rfl i32 ?_ | (refine wpList_store_R rfl 43 _ _ rfl _ _ rfl rfl hB i32 rfl (C_allL _ _) ?_; intro w5 hR5 hg5 hz5))
      exact result_row Tryd.results33 rfl hR5 Tryd.underlying43 rfl i32 rfl ⟨rfl, below_grown hL hg5 (by omega) hlt2⟩

/-- The last bytes, and what is behind them, in a block. -/
def lastB (l : List Nat) : List Nat := l ++ 128 :: Z (63 - l.length)
/-- The numbers behind the last bytes and the padding. -/
def fin2 (s : S8) (l : List Nat) (c : Nat) : S8 :=
  if l.length < 56 then blk2 s ((lastB l).take 56 ++ be8 c) else blk2 (blk2 s (lastB l)) (Z 56 ++ be8 c)
theorem lastB_length {l : List Nat} (h : l.length < 64) : (lastB l).length = 64 := by simp [lastB, Z]; omega
theorem lastB_lo {l : List Nat} (h : Lo 256 l) : Lo 256 (lastB l) := h.append (by
  intro x hx
  rcases List.mem_cons.1 hx with rfl | hx
  · decide
  · exact Z_lo (by decide) _ x hx)
theorem be_lt (c i : Nat) : be c i < 256 := Nat.mod_lt _ (by decide)
theorem be8_lo (c : Nat) : Lo 256 (be8 c) := by
  intro x hx
  simp only [be8, List.mem_cons, List.not_mem_nil, or_false] at hx
  rcases hx with rfl | rfl | rfl | rfl | rfl | rfl | rfl | rfl <;> exact be_lt _ _
/-- A block behind k bytes of the count. -/
def endw (B : List Nat) (c : Nat) : Nat → List Nat
  | 0 => B
  | k + 1 => (endw B c k).set (63 - k) (be c k)
theorem endw_length (B : List Nat) (c k : Nat) : (endw B c k).length = B.length := by
  induction k with
  | zero => rfl
  | succ k ih => simp [endw, ih]
theorem endw_all {B : List Nat} (c : Nat) (h : B.length = 64) : endw B c 8 = B.take 56 ++ be8 c := by
  obtain ⟨x0, x1, x2, x3, x4, x5, x6, x7, hd⟩ : ∃ x0 x1 x2 x3 x4 x5 x6 x7, B.drop 56 = [x0, x1, x2, x3, x4, x5, x6, x7] := by
    have hl : (B.drop 56).length = 8 := by simp [h]
    match hB : B.drop 56, hl with
    | [x0, x1, x2, x3, x4, x5, x6, x7], _ => exact ⟨x0, x1, x2, x3, x4, x5, x6, x7, rfl⟩
  have hP : (B.take 56).length = 56 := by simp [h]
  have hB : B = B.take 56 ++ [x0, x1, x2, x3, x4, x5, x6, x7] := by rw [← hd, List.take_append_drop]
  generalize B.take 56 = P at *
  subst hB
  have st : ∀ (ys : List Nat) (i x : Nat), (P ++ ys).set (56 + i) x = P ++ ys.set i x := by
    intro ys i x
    rw [List.set_append_right _ _ (by omega), hP]; simp
  simp only [endw]
  rw [show 63 - 0 = 56 + 7 from rfl, st, show 63 - 1 = 56 + 6 from rfl, st, show 63 - 2 = 56 + 5 from rfl, st, show 63 - 3 = 56 + 4 from rfl, st, show 63 - 4 = 56 + 3 from rfl, st, show 63 - 5 = 56 + 2 from rfl, st, show 63 - 6 = 56 + 1 from rfl, st, show 63 - 7 = 56 + 0 from rfl, st]
  rfl

set_option maxHeartbeats 640000 in
theorem ended_any (s : S8) (hs : s.ok) (v : Value) (l : List Nat) (N : Nat) (w : World) (hv : SlV w v (C .u8 l)) (hl : Lo 256 l) (hn : l.length < 64) (hN : N ≤ 9223372036854775807) (hTab : Tab w) :
    Calls Tryd.prog 55 #[.agg (C .u32 s.list).toArray, v, .int .i64 (N : Int)] w fun e w' => e = .returned (.agg (C .u32 (fin2 s l (8 * N % 18446744073709551616)).list).toArray) ∧ Below w.heap.size w w' := by
  obtain ⟨m, hm⟩ : ∃ m, l.length = m := ⟨_, rfl⟩
  obtain ⟨sa, sc, rfl, h1, h2⟩ := hv.shp hm
  have hA := ((Row.new w 65 (C .u32 s.list)).alloc (.cells (C .u32 (Z 8)).toArray 65)).alloc (.cells (C .u8 (Z 64)).toArray 47)
  have hB := (Row.newAt (w.alloc (.cells (C .u32 s.list).toArray 65)) (w.heap.size + 1) (by simp) 65 (C .u32 (Z 8))).alloc (.cells (C .u8 (Z 64)).toArray 47)
  have hC := Row.newAt ((w.alloc (.cells (C .u32 s.list).toArray 65)).alloc (.cells (C .u32 (Z 8)).toArray 65)) (w.heap.size + 1 + 1) (by simp) 47 (C .u8 (Z 64))
  have hL0 := Below.more (Below.refl w.heap.size w) (Nat.le_refl _) (.cells (C .u32 s.list).toArray 65)
  have hL1 := Below.more hL0.1 hL0.2 (.cells (C .u32 (Z 8)).toArray 65)
  have hL := (Below.more hL1.1 hL1.2 (.cells (C .u8 (Z 64)).toArray 47)).1
  clear hL0 hL1
  have hv3 := hv.below hL
  have hmi : (m : Int) < 64 := by omega
  go_enter Tryd.func55, Tryd.ntmps55
  go_upto_region 2 with (first | refine wpList_alloc_row rfl 65 rfl _ z8 ?_ | refine wpList_alloc_row rfl 47 rfl _ z64 ?_)
  simp only [Act.put, List.setIfInBounds_toArray, List.set_cons_zero, List.set_cons_succ, alloc_size]
  generalize ((w.alloc (.cells (C .u32 s.list).toArray 65)).alloc (.cells (C .u32 (Z 8)).toArray 65)).alloc (.cells (C .u8 (Z 64)).toArray 47) = w3 at *
  have hmin : min m 64 = m := by omega
  have hcat : (C .u8 l).take 64 ++ (C .u8 (Z 64)).drop m = C .u8 (l ++ Z (64 - m)) := by
    rw [List.take_of_length_le (by rw [C_length]; omega), ← C_drop, C_append]
    rw [Z_drop]
  have hgm : (C .u8 (l ++ Z (64 - m)))[m]? = some (.int .u8 0) := by
    rw [C_get .u8 (by simp [Z]; omega)]
    rw [← hm]
    have : (l ++ Z (64 - l.length)).getD l.length 0 = 0 := by
      obtain ⟨j, hj⟩ : ∃ j, 64 - l.length = j + 1 := ⟨63 - l.length, by omega⟩
      rw [Z, hj, List.replicate_succ]; exact getD_at _ _ _
    rw [this]; rfl
  have hset : (C .u8 (l ++ Z (64 - m))).set m (.int .u8 128) = C .u8 (lastB l) := by
    have := C_set .u8 (l ++ Z (64 - m)) m 128
    rw [show ((128 : Nat) : Int) = 128 from rfl] at this
    rw [← this, lastB, ← hm]
    congr 1
    obtain ⟨j, hj⟩ : ∃ j, 64 - l.length = j + 1 := ⟨63 - l.length, by omega⟩
    rw [Z, hj, List.replicate_succ, show 63 - l.length = j by omega]
    exact set_at _ _ _ _
  go_upto_if 18 with (refine wpList_copy_R rfl _ _ 22 rfl 5 Tryd.underlying22 i1b (w.heap.size + 1 + 1) 64 64 m (C .u8 (Z 64)) (C .u8 l) sa sc rfl rfl hC hv3 rfl (C_allL _ _) ?_; intro w4 hC4 hg4 hz4; rw [hmin]; rw [hcat] at hC4; have hct := hC4.cell m; rw [hgm] at hct; have hf4 := hC4.frozen m; have hA4 := hA.grown hg4 (by simp; omega); have hB4 := hB.grown hg4 (by simp); have hL4 := below_grown hL hg4 (by omega) hC.lt)
  have hC5 := hC4.set m (.int .u8 128)
  rw [hset] at hC5
  have hA5 := hA4.other (i := m) (.int .u8 128) (show w.heap.size ≠ w.heap.size + 1 + 1 by omega)
  have hB5 := hB4.other (i := m) (.int .u8 128) (show w.heap.size + 1 ≠ w.heap.size + 1 + 1 by omega)
  have hL5 := hL4.setCell (p := ⟨w.heap.size + 1 + 1, m, none⟩) (by simp; omega) (.int .u8 128)
  clear hcat hgm hset hC4 hA4 hB4 hL4 hct hf4 hg4 hz4 hA hB hC hL hv hv3
  generalize w4.setCell ⟨w.heap.size + 1 + 1, m, none⟩ (.int .u8 128) = w5 at *
  have hBl := lastB_lo hl
  have hBn := lastB_length hn
  obtain ⟨c, hc⟩ : ∃ c, 8 * N % 18446744073709551616 = c := ⟨_, rfl⟩
  have HCc := Away.mk hc
  go_cut [8] (fun v8 wc => v8 = .int .i64 (m : Int) ∧ ∃ (S : S8) (B : List Nat), S.ok ∧ Lo 256 B ∧ B.length = 64 ∧ Away (fin2 s l c = blk2 S (B.take 56 ++ be8 c)) ∧ Row wc w.heap.size 65 (C .u32 S.list) ∧ Row wc (w.heap.size + 1) 65 (C .u32 (Z 8)) ∧ Row wc (w.heap.size + 1 + 1) 47 (C .u8 B) ∧ Below w.heap.size w wc)
  case first =>
    by_cases h56 : m < 56
    · have d1 : decide ((56 : Int) < (m : Int) + 1) = false := decide_eq_false (by omega)
      have HF : Away (fin2 s l c = blk2 s ((lastB l).take 56 ++ be8 c)) := ⟨by rw [fin2, if_pos (by omega)]⟩
      go_wp2
      go_meet
      case rel => exact ⟨rfl, s, lastB l, hs, hBl, hBn, HF, hA5, hB5, hC5, hL5⟩
    · have d1 : decide ((56 : Int) < (m : Int) + 1) = true := decide_eq_true (by omega)
      have HF : Away (fin2 s l c = blk2 (blk2 s (lastB l)) ((Z 64).take 56 ++ be8 c)) := ⟨by rw [fin2, if_neg (by omega)]; rfl⟩
      obtain ⟨T, hT⟩ : ∃ T, blk2 s (lastB l) = T := ⟨_, rfl⟩
      have hTo : T.ok := hT ▸ blk2_ok _ _
      rw [hT] at HF
      have HT := Away.mk hT
      clear hT
      have i5T : (Tryd.prog.info? 65).map (·.size) = some (C .u32 T.list).length := i8
      have i5s : (Tryd.prog.info? 65).map (·.size) = some (C .u32 s.list).toArray.size := i8
      have h55 : (C .u32 s.list).length = (C .u32 T.list).length := rfl
      have hl64 : (Tryd.prog.info? 47).map (·.size) = some (C .u8 (lastB l)).toArray.size := by rw [C_size, hBn]; exact i64
      have i64Z : (Tryd.prog.info? 47).map (·.size) = some (C .u8 (Z 64)).length := by rw [C_length, Z_length]; exact i64
      go_wp2_with (first | refine wpList_load_row rfl 65 _ rfl _ rfl _ _ _ _ hA5 Tryd.underlying65 rfl i5s ?_ | refine wpList_load_row rfl 47 _ rfl _ rfl _ _ _ _ hC5 Tryd.underlying47 rfl hl64 ?_)
      refine (block_any s hs (lastB l) hBl hBn _ (hTab.below hL5)).mono ?_
      rintro _ w6 ⟨rfl, hb6⟩
      rw [HT.out]
      have hA6 := hA5.belowS hb6
      have hB6 := hB5.belowS hb6
      have hC6 := hC5.belowS hb6
      have hL6 := hL5.trans (hb6.mono hL5.size)
      have hlt6 := hA6.lt
      have hlt6' := hC6.lt
      clear hA5 hB5 hC5 hL5 hb6
      have hz64 : (C .u8 (lastB l)).length = (C .u8 (Z 64)).length := by rw [C_length, hBn, C_length, Z_length]
      go_wp2_with (first | (refine wpList_store_R rfl 65 _ _ rfl _ (C .u32 T.list) rfl rfl hA6 i5T h55 (C_allL _ _) ?_; intro w7 hA7 hg7 hz7; have hB7 := hB6.grown hg7 (by simp); have hC7 := hC6.grown hg7 (by simp; omega); have hL7 := below_grown hL6 hg7 (by omega) hlt6) | refine wpList_build_Z rfl 47 rfl _ b64 ?_ | (refine wpList_store_R rfl 47 _ _ rfl _ (C .u8 (Z 64)) rfl rfl hC7 i64Z hz64 (C_allL _ _) ?_; intro w8 hC8 hg8 hz8; have hA8 := hA7.grown hg8 (by simp; omega); have hB8 := hB7.grown hg8 (by simp); have hL8 := below_grown hL7 hg8 (by omega) (by omega)))
      go_meet
      case rel => exact ⟨rfl, T, Z 64, hTo, Z_lo (by decide) _, Z_length _, HF, hA8, hB8, hC8, hL8⟩
  case rest =>
    obtain ⟨rfl, S, B, hSo, hBl', hBn', HF, hA6, hB6, hC6, hL6⟩ := hcut
    clear hA5 hB5 hC5 hL5 hBl hBn
    have hce : Away (IntKind.u64.wrap ((N : Int) * 8) = (c : Int)) := ⟨by simp [IntKind.wrap, IntKind.bits, IntKind.signed]; omega⟩
    have hcm : c < 18446744073709551616 := by omega
    clear hc
    go_upto_region 8 with fail
    rw [hce.out]
    clear hce
    go_wp2
    go_loopw [26] (fun i wr => ∃ k : Nat, k ≤ 8 ∧ i = .int .i64 k ∧ Row wr w.heap.size 65 (C .u32 S.list) ∧ Row wr (w.heap.size + 1) 65 (C .u32 (Z 8)) ∧ Row wr (w.heap.size + 1 + 1) 47 (C .u8 (endw B c k)) ∧ Below w.heap.size w wr) (fun i _ => 8 - (intOf i).toNat)
    case atStart => exact ⟨0, Nat.zero_le _, rfl, hA6, hB6, hC6, hL6⟩
    case round =>
      clear hA6 hB6 hC6 hL6
      obtain ⟨k, hk, rfl, hA6, hB6, hC6, hL6⟩ := hrel
      by_cases hlt : k < 8
      · obtain ⟨j, hj, hji⟩ : ∃ j : Nat, 63 - k = j ∧ (63 : Int) - (k : Int) = (j : Int) := ⟨63 - k, rfl, by omega⟩
        have hj64 : (j : Int) < 64 := by omega
        have hct : ∃ u, wr.cell? ⟨w.heap.size + 1 + 1, j, none⟩ = some u := by
          rw [hC6.cell, C_get .u8 (by rw [endw_length]; omega)]; exact ⟨_, rfl⟩
        obtain ⟨u, hct⟩ := hct
        have hf := hC6.frozen j
        have HW : Away (endw B c (k + 1) = (endw B c k).set j (be c k)) := ⟨by rw [← hj]; rfl⟩
        have HJ := Away.mk hj
        clear hj
        go_wp2
        have HV : Away ((c : Int) / 2 ^ (k * 8) % 256 = (be c k : Nat)) := ⟨by rw [be, Nat.mul_comm 8 k]; simp⟩
        rw [HV.out]
        go_roundw
        case rel => exact ⟨k + 1, by omega, by go_num, hA6.other _ (by omega), hB6.other _ (by omega), by rw [HW.out, C_set]; exact hC6.set _ _, hL6.setCell (by simp; omega) _⟩
        case measure => simp [intOf]; omega
      · obtain rfl : k = 8 := by omega
        rw [endw_all c hBn'] at hC6
        have hQl : Lo 256 (B.take 56 ++ be8 c) := (hBl'.take 56).append (be8_lo c)
        have hQn : (B.take 56 ++ be8 c).length = 64 := by rw [List.length_append, List.length_take, hBn']; rfl
        generalize B.take 56 ++ be8 c = Q at *
        obtain ⟨T, hT⟩ : ∃ T, blk2 S Q = T := ⟨_, rfl⟩
        rw [hT] at HF
        have HT := Away.mk hT
        clear hT
        have i5T : (Tryd.prog.info? 65).map (·.size) = some (C .u32 T.list).length := i8
        have i5S : (Tryd.prog.info? 65).map (·.size) = some (C .u32 S.list).toArray.size := i8
        have h55 : (C .u32 (Z 8)).length = (C .u32 T.list).length := rfl
        have hl64 : (Tryd.prog.info? 47).map (·.size) = some (C .u8 Q).toArray.size := by rw [C_size, hQn]; exact i64
        go_wp2_with (first | refine wpList_load_row rfl 65 _ rfl _ rfl _ _ _ _ hA6 Tryd.underlying65 rfl i5S ?_ | refine wpList_load_row rfl 47 _ rfl _ rfl _ _ _ _ hC6 Tryd.underlying47 rfl hl64 ?_)
        refine (block_any S hSo Q hQl hQn _ (hTab.below hL6)).mono ?_
        rintro _ w6 ⟨rfl, hb6⟩
        rw [HT.out]
        have hB7 := hB6.belowS hb6
        have hL7 := hL6.trans (hb6.mono hL6.size)
        have hlt7 := hB7.lt
        clear hA6 hB6 hC6 hL6 hb6
        go_wp2_with (refine wpList_store_R rfl 65 _ _ rfl _ (C .u32 T.list) rfl rfl hB7 i5T h55 (C_allL _ _) ?_; intro w7 hB8 hg8 hz8)
        exact result_row Tryd.results55 rfl hB8 Tryd.underlying65 rfl i5T rfl ⟨by rw [HCc.out, HF.out], below_grown hL7 hg8 (by omega) hlt7⟩
end Go.Proofs.YtmbaenodibfedaaDoor.S2
