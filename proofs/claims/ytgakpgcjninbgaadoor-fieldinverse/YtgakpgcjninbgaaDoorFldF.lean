/-
  Contracts of the document's sums and differences of four words, over this seat's translation. Conditions: each as it says.
-/
import Derived.Test.YtgakpgcjninbgaaDoorFldD
import Derived.BigQuiet
namespace Go.Proofs.YtgakpgcjninbgaaDoor.F
open Go.RowKit
set_option linter.unusedVariables false
set_option maxRecDepth 10000

theorem refless_any (A B : Nat) (hA : A < 115792089237316195423570985008687907853269984665640564039457584007913129639936) (hB : B < 115792089237316195423570985008687907853269984665640564039457584007913129639936) (w : World) :
    Calls Tryd.prog 43 #[el A, el B] w fun e w' => e = .returned (.tuple #[el ((A + 115792089237316195423570985008687907853269984665640564039457584007913129639936 - B) % 115792089237316195423570985008687907853269984665640564039457584007913129639936), .bool (decide (A < B))]) ∧ Below w.heap.size w w' := by
  obtain ⟨hM, hBr⟩ := mns_four hA hB
  have hx := wds_lo A
  have hy := wds_lo B
  have lx := wds_length A
  have ly := wds_length B
  unfold el
  rw [← hM]
  have hdec : decide (A < B) = decide ((mns (wds A) (wds B) 4).2 = 1) := by rw [decide_eq_decide]; exact hBr.symm
  rw [hdec]
  clear hM hBr hdec
  generalize wds A = xs at *
  generalize wds B = ys at *
  obtain ⟨w3, h3, r1, r2, r3, hL, hS⟩ := rows3 w 24 24 24 (C .u64 xs) (C .u64 ys) (C .u64 (Z 4))
  go_enter Tryd.func43, Tryd.ntmps43
  go_upto_region 1 with (refine wpList_alloc_row rfl 24 rfl _ z4 ?_)
  try simp only [Act.put, List.setIfInBounds_toArray, List.set_cons_zero, List.set_cons_succ, alloc_size, h3]
  clear h3
  have r4 := Row.newAt w3 _ hS.symm 24 (C .u64 (Z 4))
  replace r1 := r1.alloc (.cells (C .u64 (Z 4)).toArray 24)
  replace r2 := r2.alloc (.cells (C .u64 (Z 4)).toArray 24)
  replace r3 := r3.alloc (.cells (C .u64 (Z 4)).toArray 24)
  replace hL := hL.alloc (by omega) (.cells (C .u64 (Z 4)).toArray 24)
  go_wp2_with (first | refine wpList_alloc_row rfl 24 rfl _ z4 ?_ | refine wpList_build_Z rfl 24 rfl _ b4 ?_ | (refine wpList_store_R rfl 24 _ _ rfl _ (C .u64 (Z 4)) (by first | rfl | (rw [← hS]; rfl)) rfl r4 i4 rfl (C_allL _ _) ?_; intro w5 r5 hg5 hz5))
  replace r1 := r1.grown hg5 (by simp; omega)
  replace r2 := r2.grown hg5 (by simp)
  replace hL := below_grown hL hg5 (by omega) r4.lt
  replace r3 := r3.grown hg5 (by simp)
  clear r4 hg5
  go_loopw [7, 8] (fun b i wr => ∃ k : Nat, k ≤ 4 ∧ i = .int .i64 k ∧ b = .int .u64 ((mns xs ys k).2 : Nat) ∧ Row wr w.heap.size 24 (C .u64 xs) ∧ Row wr (w.heap.size + 1) 24 (C .u64 ys) ∧ Row wr (w.heap.size + 1 + 1) 24 (C .u64 (Z 4)) ∧ Row wr (w.heap.size + 1 + 1 + 1) 24 (C .u64 ((mns xs ys k).1 ++ Z (4 - k))) ∧ Below w.heap.size w wr) (fun _ i _ => 4 - (intOf i).toNat)
  case atStart => exact ⟨0, Nat.zero_le _, rfl, rfl, r1, r2, r3, r5, hL⟩
  case round =>
    clear r1 r2 r3 r5 hL
    obtain ⟨k, hk, rfl, rfl, r1, r2, r3, r4, hL⟩ := hrel
    by_cases hlt : k < 4
    · have c1 := r1.cell k
      rw [C_get .u64 (by omega)] at c1
      have c2 := r2.cell k
      rw [C_get .u64 (by omega)] at c2
      have c4 := r4.cell k
      have hlen := mns_length xs ys k
      rw [C_get .u64 (by simp [hlen, Z_length]; omega)] at c4
      have hf := r4.frozen k
      have b1 := hx.getD (by decide) k
      have b2 := hy.getD (by decide) k
      have b3 := mns_le xs ys k
      have HN : Away (mns xs ys (k + 1) = ((mns xs ys k).1 ++ [(xs.getD k 0 + 18446744073709551616 - ys.getD k 0 - (mns xs ys k).2) % 18446744073709551616], if xs.getD k 0 < ys.getD k 0 + (mns xs ys k).2 then 1 else 0)) := ⟨rfl⟩
      have hki : (k : Int) < 4 := by omega
      generalize xs.getD k 0 = x at *
      generalize ys.getD k 0 = y at *
      generalize mns xs ys k = ms at *
      obtain ⟨m, b⟩ := ms
      simp only at *
      obtain ⟨z, hz⟩ : ∃ z, (x + 18446744073709551616 - y - b) % 18446744073709551616 = z := ⟨_, rfl⟩
      obtain ⟨y1, hy1⟩ : ∃ y1, (x + 18446744073709551616 - y) % 18446744073709551616 = y1 := ⟨_, rfl⟩
      have e1 : IntKind.u64.wrap ((x : Int) - (y : Int)) = (y1 : Int) := by rw [IntKind.wrap_u64]; omega
      have e2 : IntKind.u64.wrap ((y1 : Int) - (b : Int)) = (z : Int) := by rw [IntKind.wrap_u64]; omega
      rw [hz] at HN
      clear hz hy1
      generalize (m ++ Z (4 - k)).getD k 0 = u at *
      go_wp2
      go_region_held3 (fun w' => w'.cell? ⟨w.heap.size, k, none⟩ = some (.int .u64 (x : Int)) ∧ w'.cell? ⟨w.heap.size + 1, k, none⟩ = some (.int .u64 (y : Int)))
        (first | exact ⟨c1, c2⟩ | exact ⟨cell_other c1 (by omega), cell_other c2 (by omega)⟩)
        (fail)
      have q1 := (r1.drew.other (i := k) (.int .u64 (z : Int)) (show w.heap.size ≠ w.heap.size + 1 + 1 + 1 by omega))
      have q2 := (r2.drew.other (i := k) (.int .u64 (z : Int)) (show w.heap.size + 1 ≠ w.heap.size + 1 + 1 + 1 by omega))
      have q3 := (r3.drew.other (i := k) (.int .u64 (z : Int)) (show w.heap.size + 1 + 1 ≠ w.heap.size + 1 + 1 + 1 by omega))
      have q4 := row_fill r4.drew hlen (by omega) z
      rw [show 4 - k - 1 = 4 - (k + 1) by omega] at q4
      have q5 := (below_drawn hL).setCell (p := ⟨w.heap.size + 1 + 1 + 1, k, none⟩) (by simp; omega) (.int .u64 (z : Int))
      replace c1 := cell_other (i := k) (u := .int .u64 (z : Int)) c1 (show w.heap.size ≠ w.heap.size + 1 + 1 + 1 by omega)
      replace c2 := cell_other (i := k) (u := .int .u64 (z : Int)) c2 (show w.heap.size + 1 ≠ w.heap.size + 1 + 1 + 1 by omega)
      clear r1 r2 r3 r4 hL c4 hf e1 e2
      rename_i hHeld
      clear hHeld
      obtain ⟨wn, hwn, q1, q2, q3, q4, q5, c1, c2⟩ : ∃ wn : World, (wr.setCell ⟨w.heap.size + 1 + 1 + 1, k, none⟩ (.int .u64 (z : Int))).drew = wn ∧ Row wn w.heap.size 24 (C .u64 xs) ∧ Row wn (w.heap.size + 1) 24 (C .u64 ys) ∧ Row wn (w.heap.size + 1 + 1) 24 (C .u64 (Z 4)) ∧ Row wn (w.heap.size + 1 + 1 + 1) 24 (C .u64 (m ++ [z] ++ Z (4 - (k + 1)))) ∧ Below w.heap.size w wn ∧ wn.cell? ⟨w.heap.size, k, none⟩ = some (.int .u64 (x : Int)) ∧ wn.cell? ⟨w.heap.size + 1, k, none⟩ = some (.int .u64 (y : Int)) := ⟨_, rfl, q1, q2, q3, q4, q5, c1, c2⟩
      rw [hwn]
      clear hwn
      by_cases h1 : x < y
      · have HN' : Away (mns xs ys (k + 1) = (m ++ [z], 1)) := ⟨by rw [HN.out, if_pos (by omega)]⟩
        have d1 : (x : Int) < (y : Int) := by omega
        clear HN h1 b1 b2 b3
        go_wp2
        go_quiet (fail)
        go_wp2
        go_roundw
        case rel => exact ⟨k + 1, by omega, by go_num, by rw [HN'.out]; rfl, q1, q2, q3, by rw [HN'.out]; exact q4, below_drewN q5 nq⟩
        case measure => simp [intOf]; omega
      · by_cases h2 : x = y
        · have d1 : ¬ (x : Int) < (y : Int) := by omega
          have d2 : (x : Int) = (y : Int) := by omega
          by_cases h3 : b = 1
          · have HN' : Away (mns xs ys (k + 1) = (m ++ [z], 1)) := ⟨by rw [HN.out, if_pos (by omega)]⟩
            have d3 : (b : Int) = 1 := by omega
            clear HN h1 h2 h3 b1 b2 b3
            go_wp2
            go_quiet (fail)
            go_wp2
            go_roundw
            case rel => exact ⟨k + 1, by omega, by go_num, by rw [HN'.out]; rfl, q1, q2, q3, by rw [HN'.out]; exact q4, below_drewN q5 nq⟩
            case measure => simp [intOf]; omega
          · have HN' : Away (mns xs ys (k + 1) = (m ++ [z], 0)) := ⟨by rw [HN.out, if_neg (by omega)]⟩
            have d3 : ¬ (b : Int) = 1 := by omega
            clear HN h1 h2 h3 b1 b2 b3
            go_wp2
            go_quiet (fail)
            go_wp2
            go_roundw
            case rel => exact ⟨k + 1, by omega, by go_num, by rw [HN'.out]; rfl, q1, q2, q3, by rw [HN'.out]; exact q4, below_drewN q5 nq⟩
            case measure => simp [intOf]; omega
        · have HN' : Away (mns xs ys (k + 1) = (m ++ [z], 0)) := ⟨by rw [HN.out, if_neg (by omega)]⟩
          have d1 : decide (x < y) = false := decide_eq_false h1
          have d2 : ((x : Int) == (y : Int)) = false := by rw [beq_eq_false_iff_ne]; omega
          clear HN h1 h2 b1 b2 b3
          go_wp2
          go_quiet (fail)
          go_wp2
          go_roundw
          case rel => exact ⟨k + 1, by omega, by go_num, by rw [HN'.out]; rfl, q1, q2, q3, by rw [HN'.out]; exact q4, below_drewN q5 nq⟩
          case measure => simp [intOf]; omega
    · obtain rfl : k = 4 := by omega
      have h4 := mns_length xs ys 4
      generalize hms : mns xs ys 4 = ms at *
      have HM := Away.mk hms
      clear hms
      obtain ⟨m, b⟩ := ms
      simp only at *
      rw [show m ++ Z (4 - 4) = m by simp [Z]] at r4
      have hi := h4
      rw [← C_length .u64 m] at hi
      have hi4 : (Tryd.prog.info? 24).map (·.size) = some (C .u64 m).length := by rw [hi]; exact i4
      have db : ((b : Int) == 1) = decide (b = 1) := by rw [Bool.eq_iff_iff]; simp; omega
      clear h4
      go_wp2_with (first | refine wpList_load_row rfl 24 _ rfl _ rfl _ _ _ _ r4 Tryd.underlying24 rfl hi4 ?_ | (refine wpList_store_R rfl 24 _ _ rfl _ _ rfl rfl r3 hi4 (by rw [hi]; rfl) (C_allL _ _) ?_; intro w5 hR5 hg5 hz5))
      exact result_row2 Tryd.results43 (v := .bool (decide (b = 1))) rfl rfl hR5 Tryd.underlying24 rfl hi4 rfl ⟨by rw [HM.out], below_grown hL hg5 (by omega) r3.lt⟩
theorem refmore_any11 (A B : Nat) (hA : A < 115792089237316195423570985008687907853269984665640564039457584007913129639936) (hB : B < 115792089237316195423570985008687907853269984665640564039457584007913129639936) (w : World) :
    Calls Tryd.prog 42 #[el A, el B] w fun e w' => e = .returned (.tuple #[el ((A + B) % 115792089237316195423570985008687907853269984665640564039457584007913129639936), .bool (decide ((A + B) / 115792089237316195423570985008687907853269984665640564039457584007913129639936 = 1))]) ∧ Below w.heap.size w w' := by
  obtain ⟨hM, hBr⟩ := pls_four hA hB
  have hx := wds_lo A
  have hy := wds_lo B
  have lx := wds_length A
  have ly := wds_length B
  unfold el
  rw [← hM, ← hBr]
  clear hM hBr
  generalize wds A = xs at *
  generalize wds B = ys at *
  obtain ⟨w3, h3, r1, r2, r3, hL, hS⟩ := rows3 w 24 24 24 (C .u64 xs) (C .u64 ys) (C .u64 (Z 4))
  go_enter Tryd.func42, Tryd.ntmps42
  go_upto_region 1 with (refine wpList_alloc_row rfl 24 rfl _ z4 ?_)
  try simp only [Act.put, List.setIfInBounds_toArray, List.set_cons_zero, List.set_cons_succ, alloc_size, h3]
  clear h3
  have r4 := Row.newAt w3 _ hS.symm 24 (C .u64 (Z 4))
  replace r1 := r1.alloc (.cells (C .u64 (Z 4)).toArray 24)
  replace r2 := r2.alloc (.cells (C .u64 (Z 4)).toArray 24)
  replace r3 := r3.alloc (.cells (C .u64 (Z 4)).toArray 24)
  replace hL := hL.alloc (by omega) (.cells (C .u64 (Z 4)).toArray 24)
  go_wp2_with (first | refine wpList_alloc_row rfl 24 rfl _ z4 ?_ | refine wpList_build_Z rfl 24 rfl _ b4 ?_ | (refine wpList_store_R rfl 24 _ _ rfl _ (C .u64 (Z 4)) (by first | rfl | (rw [← hS]; rfl)) rfl r4 i4 rfl (C_allL _ _) ?_; intro w5 r5 hg5 hz5))
  replace r1 := r1.grown hg5 (by simp; omega)
  replace r2 := r2.grown hg5 (by simp)
  replace hL := below_grown hL hg5 (by omega) r4.lt
  replace r3 := r3.grown hg5 (by simp)
  clear r4 hg5
  go_loopw [7, 8] (fun b i wr => ∃ k : Nat, k ≤ 4 ∧ i = .int .i64 k ∧ b = .int .u64 ((pls xs ys k).2 : Nat) ∧ Row wr w.heap.size 24 (C .u64 xs) ∧ Row wr (w.heap.size + 1) 24 (C .u64 ys) ∧ Row wr (w.heap.size + 1 + 1) 24 (C .u64 (Z 4)) ∧ Row wr (w.heap.size + 1 + 1 + 1) 24 (C .u64 ((pls xs ys k).1 ++ Z (4 - k))) ∧ Below w.heap.size w wr) (fun _ i _ => 4 - (intOf i).toNat)
  case atStart => exact ⟨0, Nat.zero_le _, rfl, rfl, r1, r2, r3, r5, hL⟩
  case round =>
    clear r1 r2 r3 r5 hL
    obtain ⟨k, hk, rfl, rfl, r1, r2, r3, r4, hL⟩ := hrel
    by_cases hlt : k < 4
    · have c1 := r1.cell k
      rw [C_get .u64 (by omega)] at c1
      have c2 := r2.cell k
      rw [C_get .u64 (by omega)] at c2
      have c4 := r4.cell k
      have hlen := pls_length xs ys k
      rw [C_get .u64 (by simp [hlen, Z_length]; omega)] at c4
      have hf := r4.frozen k
      have b1 := hx.getD (by decide) k
      have b2 := hy.getD (by decide) k
      have b3 := pls_le hx hy k
      have HN : Away (pls xs ys (k + 1) = ((pls xs ys k).1 ++ [(xs.getD k 0 + ys.getD k 0 + (pls xs ys k).2) % 18446744073709551616], (xs.getD k 0 + ys.getD k 0 + (pls xs ys k).2) / 18446744073709551616)) := ⟨rfl⟩
      have hki : (k : Int) < 4 := by omega
      generalize xs.getD k 0 = x at *
      generalize ys.getD k 0 = y at *
      generalize pls xs ys k = ms at *
      obtain ⟨m, b⟩ := ms
      simp only at *
      obtain ⟨z, hz⟩ : ∃ z, (x + y + b) % 18446744073709551616 = z := ⟨_, rfl⟩
      obtain ⟨y1, hy1⟩ : ∃ y1, (x + y) % 18446744073709551616 = y1 := ⟨_, rfl⟩
      have e1 : IntKind.u64.wrap ((x : Int) + (y : Int)) = (y1 : Int) := by rw [IntKind.wrap_u64]; omega
      have e2 : IntKind.u64.wrap ((y1 : Int) + (b : Int)) = (z : Int) := by rw [IntKind.wrap_u64]; omega
      rw [hz] at HN
      generalize (m ++ Z (4 - k)).getD k 0 = u at *
      have HD : Away ((x + y + b) / 18446744073709551616 = if y1 < x ∨ z < y1 then 1 else 0) := ⟨by split <;> omega⟩
      rw [HD.out] at HN
      clear hz hy1 HD
      go_wp2
      go_quiet (fail)
      obtain ⟨wn, hwn, r1, r2, r3, r4, hL, c1, c2, c4, hf⟩ : ∃ wn : World, wr.drewN nq = wn ∧ Row wn w.heap.size 24 (C .u64 xs) ∧ Row wn (w.heap.size + 1) 24 (C .u64 ys) ∧ Row wn (w.heap.size + 1 + 1) 24 (C .u64 (Z 4)) ∧ Row wn (w.heap.size + 1 + 1 + 1) 24 (C .u64 (m ++ Z (4 - k))) ∧ Below w.heap.size w wn ∧ wn.cell? ⟨w.heap.size, k, none⟩ = some (.int .u64 (x : Int)) ∧ wn.cell? ⟨w.heap.size + 1, k, none⟩ = some (.int .u64 (y : Int)) ∧ wn.cell? ⟨w.heap.size + 1 + 1 + 1, k, none⟩ = some (.int .u64 (u : Int)) ∧ wn.frozen? ⟨w.heap.size + 1 + 1 + 1, k, none⟩ = false := ⟨_, rfl, r1, r2, r3, r4, below_drewN hL nq, c1, c2, c4, hf⟩
      rw [hwn]
      clear hwn
      have q1 := (r1.other (i := k) (.int .u64 (z : Int)) (show w.heap.size ≠ w.heap.size + 1 + 1 + 1 by omega))
      have q2 := (r2.other (i := k) (.int .u64 (z : Int)) (show w.heap.size + 1 ≠ w.heap.size + 1 + 1 + 1 by omega))
      have q3 := (r3.other (i := k) (.int .u64 (z : Int)) (show w.heap.size + 1 + 1 ≠ w.heap.size + 1 + 1 + 1 by omega))
      have q4 := row_fill r4 hlen (by omega) z
      rw [show 4 - k - 1 = 4 - (k + 1) by omega] at q4
      have q5 := hL.setCell (p := ⟨w.heap.size + 1 + 1 + 1, k, none⟩) (by simp; omega) (.int .u64 (z : Int))
      clear r1 r2 r3 r4 hL
      by_cases h1 : y1 < x
      · have HN' : Away (pls xs ys (k + 1) = (m ++ [z], 1)) := ⟨by rw [HN.out, if_pos (.inl h1)]⟩
        have d1 : (y1 : Int) < (x : Int) := by omega
        clear HN h1 b1 b2 b3
        go_wp2
        go_roundw
        case rel => exact ⟨k + 1, by omega, by go_num, by rw [HN'.out]; rfl, q1, q2, q3, by rw [HN'.out]; exact q4, q5⟩
        case measure => simp [intOf]; omega
      · have d1 : ¬ (y1 : Int) < (x : Int) := by omega
        by_cases h2 : z < y1
        · have HN' : Away (pls xs ys (k + 1) = (m ++ [z], 1)) := ⟨by rw [HN.out, if_pos (.inr h2)]⟩
          have d2 : (z : Int) < (y1 : Int) := by omega
          clear HN h1 h2 b1 b2 b3
          go_wp2
          go_roundw
          case rel => exact ⟨k + 1, by omega, by go_num, by rw [HN'.out]; rfl, q1, q2, q3, by rw [HN'.out]; exact q4, q5⟩
          case measure => simp [intOf]; omega
        · have HN' : Away (pls xs ys (k + 1) = (m ++ [z], 0)) := ⟨by rw [HN.out, if_neg (by omega)]⟩
          have d2 : ¬ (z : Int) < (y1 : Int) := by omega
          clear HN h1 h2 b1 b2 b3
          go_wp2
          go_roundw
          case rel => exact ⟨k + 1, by omega, by go_num, by rw [HN'.out]; rfl, q1, q2, q3, by rw [HN'.out]; exact q4, q5⟩
          case measure => simp [intOf]; omega
    · obtain rfl : k = 4 := by omega
      have h4 := pls_length xs ys 4
      generalize hms : pls xs ys 4 = ms at *
      have HM := Away.mk hms
      clear hms
      obtain ⟨m, b⟩ := ms
      simp only at *
      rw [show m ++ Z (4 - 4) = m by simp [Z]] at r4
      have hi := h4
      rw [← C_length .u64 m] at hi
      have hi4 : (Tryd.prog.info? 24).map (·.size) = some (C .u64 m).length := by rw [hi]; exact i4
      have db : ((b : Int) == 1) = decide (b = 1) := by rw [Bool.eq_iff_iff]; simp; omega
      clear h4
      go_wp2_with (first | refine wpList_load_row rfl 24 _ rfl _ rfl _ _ _ _ r4 Tryd.underlying24 rfl hi4 ?_ | (refine wpList_store_R rfl 24 _ _ rfl _ _ rfl rfl r3 hi4 (by rw [hi]; rfl) (C_allL _ _) ?_; intro w5 hR5 hg5 hz5))
      exact result_row2 Tryd.results42 (v := .bool (decide (b = 1))) rfl rfl hR5 Tryd.underlying24 rfl hi4 rfl ⟨by rw [HM.out], below_grown hL hg5 (by omega) r3.lt⟩
end Go.Proofs.YtgakpgcjninbgaaDoor.F
