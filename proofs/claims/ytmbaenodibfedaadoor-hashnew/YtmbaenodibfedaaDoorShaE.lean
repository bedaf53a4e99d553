/-
  The contract of the first hash's ended, over this seat's translation. Conditions: less than 64 bytes are left.
-/
import Derived.Test.YtmbaenodibfedaaDoorShaD
import Derived.Deep.DeepCutAuto
import Derived.Deep.Cut
namespace Go.Proofs.YtmbaenodibfedaaDoor.S1
open Go.RowKit
set_option linter.unusedVariables false
set_option maxRecDepth 10000

/-- The last bytes, and what is behind them, in a block. -/
def lastB (l : List Nat) : List Nat := l ++ 128 :: Z (63 - l.length)
/-- The numbers behind the last bytes and the padding. -/
def fin1 (s : S5) (l : List Nat) (c : Nat) : S5 :=
  if l.length < 56 then blk1 s ((lastB l).take 56 ++ be8 c) else blk1 (blk1 s (lastB l)) (Z 56 ++ be8 c)
theorem lastB_length {l : List Nat} (h : l.length < 64) : (lastB l).length = 64 := by simp [lastB, Z]; omega
theorem lastB_lo {l : List Nat} (h : Lo 256 l) : Lo 256 (lastB l) := h.append (by
  intro x hx
  rcases List.mem_cons.1 hx with rfl | hx
  · decide
  · exact Z_lo (by decide) _ x hx)
theorem be_lt (c i : Nat) : be c i < 256 := Nat.mod_lt _ (by decide)
theorem be8_lo (c : Nat) : Lo 256 (be8 c) := by
  intro x hx
  simp only [be8, List.mem_cons, List.not_mem_nil, or_false] at hx
  rcases hx with rfl | rfl | rfl | rfl | rfl | rfl | rfl | rfl <;> exact be_lt _ _
/-- A block behind k bytes of the count. -/
def endw (B : List Nat) (c : Nat) : Nat → List Nat
  | 0 => B
  | k + 1 => (endw B c k).set (63 - k) (be c k)
theorem endw_length (B : List Nat) (c k : Nat) : (endw B c k).length = B.length := by
  induction k with
  | zero => rfl
  | succ k ih => simp [endw, ih]
theorem endw_all {B : List Nat} (c : Nat) (h : B.length = 64) : endw B c 8 = B.take 56 ++ be8 c := by
  obtain ⟨x0, x1, x2, x3, x4, x5, x6, x7, hd⟩ : ∃ x0 x1 x2 x3 x4 x5 x6 x7, B.drop 56 = [x0, x1, x2, x3, x4, x5, x6, x7] := by
    have hl : (B.drop 56).length = 8 := by simp [h]
    match hB : B.drop 56, hl with
    | [x0, x1, x2, x3, x4, x5, x6, x7], _ => exact ⟨x0, x1, x2, x3, x4, x5, x6, x7, rfl⟩
  have hP : (B.take 56).length = 56 := by simp [h]
  have hB : B = B.take 56 ++ [x0, x1, x2, x3, x4, x5, x6, x7] := by rw [← hd, List.take_append_drop]
  generalize B.take 56 = P at *
  subst hB
  have st : ∀ (ys : List Nat) (i x : Nat), (P ++ ys).set (56 + i) x = P ++ ys.set i x := by
    intro ys i x
    rw [List.set_append_right _ _ (by omega), hP]; simp
  simp only [endw]
  rw [show 63 - 0 = 56 + 7 from rfl, st, show 63 - 1 = 56 + 6 from rfl, st, show 63 - 2 = 56 + 5 from rfl, st, show 63 - 3 = 56 + 4 from rfl, st, show 63 - 4 = 56 + 3 from rfl, st, show 63 - 5 = 56 + 2 from rfl, st, show 63 - 6 = 56 + 1 from rfl, st, show 63 - 7 = 56 + 0 from rfl, st]
  rfl

set_option maxHeartbeats 800000 in
theorem ended_any (s : S5) (hs : s.ok) (v : Value) (l : List Nat) (N : Nat) (w : World) (hv : SlV w v (C .u8 l)) (hl : Lo 256 l) (hn : l.length < 64) (hN : N ≤ 9223372036854775807) :
    Calls Tryd.prog 32 #[.agg (C .u32 s.list).toArray, v, .int .i64 (N : Int)] w fun e w' => e = .returned (.agg (C .u32 (fin1 s l (8 * N % 18446744073709551616)).list).toArray) ∧ Below w.heap.size w w' := by
  obtain ⟨m, hm⟩ : ∃ m, l.length = m := ⟨_, rfl⟩
  obtain ⟨sa, sc, rfl, h1, h2⟩ := hv.shp hm
  have hA := ((Row.new w 59 (C .u32 s.list)).alloc (.cells (C .u32 (Z 5)).toArray 59)).alloc (.cells (C .u8 (Z 64)).toArray 47)
  have hB := (Row.newAt (w.alloc (.cells (C .u32 s.list).toArray 59)) (w.heap.size + 1) (by simp) 59 (C .u32 (Z 5))).alloc (.cells (C .u8 (Z 64)).toArray 47)
  have hC := Row.newAt ((w.alloc (.cells (C .u32 s.list).toArray 59)).alloc (.cells (C .u32 (Z 5)).toArray 59)) (w.heap.size + 1 + 1) (by simp) 47 (C .u8 (Z 64))
  have hL0 := Below.more (Below.refl w.heap.size w) (Nat.le_refl _) (.cells (C .u32 s.list).toArray 59)
  have hL1 := Below.more hL0.1 hL0.2 (.cells (C .u32 (Z 5)).toArray 59)
  have hL := (Below.more hL1.1 hL1.2 (.cells (C .u8 (Z 64)).toArray 47)).1
  clear hL0 hL1
  have hv3 := hv.below hL
  have hmi : (m : Int) < 64 := by omega
  go_enter Tryd.func32, Tryd.ntmps32
  go_upto_region 2 with (first | refine wpList_alloc_row rfl 59 rfl _ z5 ?_ | refine wpList_alloc_row rfl 47 rfl _ z64 ?_)
  simp only [Act.put, List.setIfInBounds_toArray, List.set_cons_zero, List.set_cons_succ, alloc_size]
  generalize ((w.alloc (.cells (C .u32 s.list).toArray 59)).alloc (.cells (C .u32 (Z 5)).toArray 59)).alloc (.cells (C .u8 (Z 64)).toArray 47) = w3 at *
  have hmin : min m 64 = m := by omega
  have hcat : (C .u8 l).take 64 ++ (C .u8 (Z 64)).drop m = C .u8 (l ++ Z (64 - m)) := by
    rw [List.take_of_length_le (by rw [C_length]; omega), ← C_drop, C_append]
    rw [Z_drop]
  have hgm : (C .u8 (l ++ Z (64 - m)))[m]? = some (.int .u8 0) := by
    rw [C_get .u8 (by simp [Z]; omega)]
    rw [← hm]
    have : (l ++ Z (64 - l.length)).getD l.length 0 = 0 := by
      obtain ⟨j, hj⟩ : ∃ j, 64 - l.length = j + 1 := ⟨63 - l.length, by omega⟩
      rw [Z, hj, List.replicate_succ]; exact getD_at _ _ _
    rw [this]; rfl
  have hset : (C .u8 (l ++ Z (64 - m))).set m (.int .u8 128) = C .u8 (lastB l) := by
    have := C_set .u8 (l ++ Z (64 - m)) m 128
    rw [show ((128 : Nat) : Int) = 128 from rfl] at this
    rw [← this, lastB, ← hm]
    congr 1
    obtain ⟨j, hj⟩ : ∃ j, 64 - l.length = j + 1 := ⟨63 - l.length, by omega⟩
    rw [Z, hj, List.replicate_succ, show 63 - l.length = j by omega]
    exact set_at _ _ _ _
  go_upto_if 18 with (refine wpList_copy_R rfl _ _ 22 rfl 5 Tryd.underlying22 i1b (w.heap.size + 1 + 1) 64 64 m (C .u8 (Z 64)) (C .u8 l) sa sc rfl rfl hC hv3 rfl (C_allL _ _) ?_; intro w4 hC4 hg4 hz4; rw [hmin]; rw [hcat] at hC4; have hct := hC4.cell m; rw [hgm] at hct; have hf4 := hC4.frozen m; have hA4 := hA.grown hg4 (by simp; omega); have hB4 := hB.grown hg4 (by simp); have hL4 := below_grown hL hg4 (by omega) hC.lt)
  have hC5 := hC4.set m (.int .u8 128)
  rw [hset] at hC5
  have hA5 := hA4.other (i := m) (.int .u8 128) (show w.heap.size ≠ w.heap.size + 1 + 1 by omega)
  have hB5 := hB4.other (i := m) (.int .u8 128) (show w.heap.size + 1 ≠ w.heap.size + 1 + 1 by omega)
  have hL5 := hL4.setCell (p := ⟨w.heap.size + 1 + 1, m, none⟩) (by simp; omega) (.int .u8 128)
  clear hcat hgm hset hC4 hA4 hB4 hL4 hct hf4 hg4 hz4 hA hB hC hL hv hv3
  generalize w4.setCell ⟨w.heap.size + 1 + 1, m, none⟩ (.int .u8 128) = w5 at *
  have hBl := lastB_lo hl
  have hBn := lastB_length hn
  obtain ⟨c, hc⟩ : ∃ c, 8 * N % 18446744073709551616 = c := ⟨_, rfl⟩
  have HCc := Away.mk hc
  go_cut [8] (fun v8 wc => v8 = .int .i64 (m : Int) ∧ ∃ (S : S5) (B : List Nat), S.ok ∧ Lo 256 B ∧ B.length = 64 ∧ Away (fin1 s l c = blk1 S (B.take 56 ++ be8 c)) ∧ Row wc w.heap.size 59 (C .u32 S.list) ∧ Row wc (w.heap.size + 1) 59 (C .u32 (Z 5)) ∧ Row wc (w.heap.size + 1 + 1) 47 (C .u8 B) ∧ Below w.heap.size w wc)
  case first =>
    by_cases h56 : m < 56
    · have d1 : decide ((56 : Int) < (m : Int) + 1) = false := decide_eq_false (by omega)
      have HF : Away (fin1 s l c = blk1 s ((lastB l).take 56 ++ be8 c)) := ⟨by rw [fin1, if_pos (by omega)]⟩
      go_wp2
      go_meet
      case rel => exact ⟨rfl, s, lastB l, hs, hBl, hBn, HF, hA5, hB5, hC5, hL5⟩
    · have d1 : decide ((56 : Int) < (m : Int) + 1) = true := decide_eq_true (by omega)
      have HF : Away (fin1 s l c = blk1 (blk1 s (lastB l)) ((Z 64).take 56 ++ be8 c)) := ⟨by rw [fin1, if_neg (by omega)]; rfl⟩
      obtain ⟨T, hT⟩ : ∃ T, blk1 s (lastB l) = T := ⟨_, rfl⟩
      have hTo : T.ok := hT ▸ blk1_ok _ _
      rw [hT] at HF
      have HT := Away.mk hT
      clear hT
      have i5T : (Tryd.prog.info? 59).map (·.size) = some (C .u32 T.list).length := i5
      have i5s : (Tryd.prog.info? 59).map (·.size) = some (C .u32 s.list).toArray.size := i5
      have h55 : (C .u32 s.list).length = (C .u32 T.list).length := rfl
      have hl64 : (Tryd.prog.info? 47).map (·.size) = some (C .u8 (lastB l)).toArray.size := by rw [C_size, hBn]; exact i64
      have i64Z : (Tryd.prog.info? 47).map (·.size) = some (C .u8 (Z 64)).length := by rw [C_length, Z_length]; exact i64
      go_wp2_with (first | refine wpList_load_row rfl 59 _ rfl _ rfl _ _ _ _ hA5 Tryd.underlying59 rfl i5s ?_ | refine wpList_load_row rfl 47 _ rfl _ rfl _ _ _ _ hC5 Tryd.underlying47 rfl hl64 ?_)
      refine (block_any s hs (lastB l) hBl hBn _).mono ?_
      rintro _ w6 ⟨rfl, hb6⟩
      rw [HT.out]
      have hA6 := hA5.belowS hb6
      have hB6 := hB5.belowS hb6
      have hC6 := hC5.belowS hb6
      have hL6 := hL5.trans (hb6.mono hL5.size)
      have hlt6 := hA6.lt
      have hlt6' := hC6.lt
      clear hA5 hB5 hC5 hL5 hb6
      have hz64 : (C .u8 (lastB l)).length = (C .u8 (Z 64)).length := by rw [C_length, hBn, C_length, Z_length]
      go_wp2_with (first | (refine wpList_store_R rfl 59 _ _ rfl _ (C .u32 T.list) rfl rfl hA6 i5T h55 (C_allL _ _) ?_; intro w7 hA7 hg7 hz7; have hB7 := hB6.grown hg7 (by simp); have hC7 := hC6.grown hg7 (by simp; omega); have hL7 := below_grown hL6 hg7 (by omega) hlt6) | refine wpList_build_Z rfl 47 rfl _ b64 ?_ | (refine wpList_store_R rfl 47 _ _ rfl _ (C .u8 (Z 64)) rfl rfl hC7 i64Z hz64 (C_allL _ _) ?_; intro w8 hC8 hg8 hz8; have hA8 := hA7.grown hg8 (by simp; omega); have hB8 := hB7.grown hg8 (by simp); have hL8 := below_grown hL7 hg8 (by omega) (by omega)))
      go_meet
      case rel => exact ⟨rfl, T, Z 64, hTo, Z_lo (by decide) _, Z_length _, HF, hA8, hB8, hC8, hL8⟩
  case rest =>
    obtain ⟨rfl, S, B, hSo, hBl', hBn', HF, hA6, hB6, hC6, hL6⟩ := hcut
    clear hA5 hB5 hC5 hL5 hBl hBn
    have hce : Away (IntKind.u64.wrap ((N : Int) * 8) = (c : Int)) := ⟨by simp [IntKind.wrap, IntKind.bits, IntKind.signed]; omega⟩
    have hcm : c < 18446744073709551616 := by omega
    clear hc
    go_upto_region 8 with fail
    rw [hce.out]
    clear hce
    go_wp2
    go_loopw [26] (fun i wr => ∃ k : Nat, k ≤ 8 ∧ i = .int .i64 k ∧ Row wr w.heap.size 59 (C .u32 S.list) ∧ Row wr (w.heap.size + 1) 59 (C .u32 (Z 5)) ∧ Row wr (w.heap.size + 1 + 1) 47 (C .u8 (endw B c k)) ∧ Below w.heap.size w wr) (fun i _ => 8 - (intOf i).toNat)
    case atStart => exact ⟨0, Nat.zero_le _, rfl, hA6, hB6, hC6, hL6⟩
    case round =>
      clear hA6 hB6 hC6 hL6
      obtain ⟨k, hk, rfl, hA6, hB6, hC6, hL6⟩ := hrel
      by_cases hlt : k < 8
      · obtain ⟨j, hj, hji⟩ : ∃ j : Nat, 63 - k = j ∧ (63 : Int) - (k : Int) = (j : Int) := ⟨63 - k, rfl, by omega⟩
        have hj64 : (j : Int) < 64 := by omega
        have hct : ∃ u, wr.cell? ⟨w.heap.size + 1 + 1, j, none⟩ = some u := by
          rw [hC6.cell, C_get .u8 (by rw [endw_length]; omega)]; exact ⟨_, rfl⟩
        obtain ⟨u, hct⟩ := hct
        have hf := hC6.frozen j
        have HW : Away (endw B c (k + 1) = (endw B c k).set j (be c k)) := ⟨by rw [← hj]; rfl⟩
        have HJ := Away.mk hj
        clear hj
        go_wp2
        have HV : Away ((c : Int) / 2 ^ (k * 8) % 256 = (be c k : Nat)) := ⟨by rw [be, Nat.mul_comm 8 k]; simp⟩
        rw [HV.out]
        go_roundw
        case rel => exact ⟨k + 1, by omega, by go_num, hA6.other _ (by omega), hB6.other _ (by omega), by rw [HW.out, C_set]; exact hC6.set _ _, hL6.setCell (by simp; omega) _⟩
        case measure => simp [intOf]; omega
      · obtain rfl : k = 8 := by omega
        rw [endw_all c hBn'] at hC6
        have hQl : Lo 256 (B.take 56 ++ be8 c) := (hBl'.take 56).append (be8_lo c)
        have hQn : (B.take 56 ++ be8 c).length = 64 := by rw [List.length_append, List.length_take, hBn']; rfl
        generalize B.take 56 ++ be8 c = Q at *
        obtain ⟨T, hT⟩ : ∃ T, blk1 S Q = T := ⟨_, rfl⟩
        rw [hT] at HF
        have HT := Away.mk hT
        clear hT
        have i5T : (Tryd.prog.info? 59).map (·.size) = some (C .u32 T.list).length := i5
        have i5S : (Tryd.prog.info? 59).map (·.size) = some (C .u32 S.list).toArray.size := i5
        have h55 : (C .u32 (Z 5)).length = (C .u32 T.list).length := rfl
        have hl64 : (Tryd.prog.info? 47).map (·.size) = some (C .u8 Q).toArray.size := by rw [C_size, hQn]; exact i64
        go_wp2_with (first | refine wpList_load_row rfl 59 _ rfl _ rfl _ _ _ _ hA6 Tryd.underlying59 rfl i5S ?_ | refine wpList_load_row rfl 47 _ rfl _ rfl _ _ _ _ hC6 Tryd.underlying47 rfl hl64 ?_)
        refine (block_any S hSo Q hQl hQn _).mono ?_
        rintro _ w6 ⟨rfl, hb6⟩
        rw [HT.out]
        have hB7 := hB6.belowS hb6
        have hL7 := hL6.trans (hb6.mono hL6.size)
        have hlt7 := hB7.lt
        clear hA6 hB6 hC6 hL6 hb6
        go_wp2_with (refine wpList_store_R rfl 59 _ _ rfl _ (C .u32 T.list) rfl rfl hB7 i5T h55 (C_allL _ _) ?_; intro w7 hB8 hg8 hz8)
        exact result_row Tryd.results32 rfl hB8 Tryd.underlying59 rfl i5T rfl ⟨by rw [HCc.out, HF.out], below_grown hL7 hg8 (by omega) hlt7⟩
end Go.Proofs.YtmbaenodibfedaaDoor.S1
