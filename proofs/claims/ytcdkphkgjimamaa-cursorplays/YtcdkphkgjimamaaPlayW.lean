/-
  The walk of the law CursorPlays: for every byte slice and every script it returns true and writes nothing that was there. Conditions: what a reading of its arguments gives.
-/
import Derived.Test.YtcdkphkgjimamaaPlay
namespace Go.Proofs.Ytcdkphkgjimamaa
open Go.RowKit
set_option linter.unusedVariables false

set_option maxRecDepth 100000 in
set_option maxHeartbeats 2000000 in
theorem plays_walk (a0 : Option Addr) (cap0 : Nat) (xs : List Int) (a1 : Option Addr) (len1 cap1 : Nat) (w : World) (hs : SlV w (.slice a0 xs.length cap0) (U xs)) (hbx : Byt xs) (hl1 : len1 ≤ maxLen)
    (hacts : ∀ i, i < len1 → ∃ b off kd n, a1 = some ⟨b, off, none⟩ ∧ w.cell? ⟨b, off + i * 2, none⟩ = some (.int .i64 kd) ∧ w.cell? ⟨b, off + i * 2 + 1, none⟩ = some (.int .i64 n)) :
    Calls Try.prog 3 #[.slice a0 xs.length cap0, .slice a1 len1 cap1] w fun e w' => e = .returned (.bool true) ∧ Below w.heap.size w w' := by
  have hml := hs.len
  rw [U_length] at hml
  have hmx : (xs.length : Int) ≤ 9223372036854775807 := by unfold maxLen at hml; omega
  have hmx1 : (len1 : Int) ≤ 9223372036854775807 := by unfold maxLen at hl1; omega
  by_cases hlong : 300 < xs.length
  · have hl' : (300 : Int) < (xs.length : Int) := by omega
    clear hacts
    go_enter Try.func3, Try.ntmps3
    go_wp2_with (go_at_call 8; refine (alive_true _).mono ?_; rintro e w' ⟨rfl, hb⟩)
    go_ret
    exact ⟨rfl, hb⟩
  have hl' : ¬ (300 : Int) < (xs.length : Int) := by omega
  have HA := hide hacts
  clear hacts
  go_enter Try.func3, Try.ntmps3
  go_wp2_with (at_builtin; refine wpList_append_sl rfl (.tmp 21) (.tmp 22) 22 rfl w.heap.size 5 _ 1 Try.underlying22 Try.info5 rfl _ 0 [] rfl (own_empty _ _ _ (Nat.le_refl _)) _ (U xs) rfl (by exact hs.below ((Below.refl _ _).alloc (Nat.le_refl _) _)) (U_one _) (by rw [U_length]; unfold maxLen; omega) (by rw [U_length]; omega) (by simp) ?_)
  intro v1 w1 ho1 hg1
  have hb1 : Below w.heap.size w w1 := grown_below ((Below.refl _ _).alloc (Nat.le_refl _) _) (Nat.le_refl _) hg1 (by simp [Value.ownBlock])
  have hs1 : SlV w1 v1 (U xs) := SlV.ofOwn ho1
  have hlt1 := ho1.lt
  clear hg1 ho1
  go_wp2_with fail
  refine (over_any v1 xs w1 hs1 (by omega)).mono ?_
  rintro e w2 ⟨c, sv, rfl, hcw, hc2, hb2⟩
  have hcl := hc2.lt
  have hs2 := hs1.below hb2
  have hP : Play w (w2.alloc (.cells #[.slice a0 xs.length cap0, .int .i64 0] 28)) c w2.heap.size sv (.slice a0 xs.length cap0) v1 xs 0 0 := by
    have hba : Below w2.heap.size w2 (w2.alloc (.cells #[.slice a0 xs.length cap0, .int .i64 0] 28)) := (Below.refl _ _).alloc (Nat.le_refl _) _
    exact ⟨hc2.below hba, by simp, by simp, by simp, by simp, hs2.below hba, fun b e => Nat.lt_of_lt_of_le (hlt1 b e).2 hcw, hcl, Nat.le_trans hb1.size hcw, (hb1.trans (hb2.mono hb1.size)).alloc (Nat.le_trans hb1.size hb2.size) _⟩
  clear hs1 hb1 hb2 hs2 hc2 hlt1
  go_wp2
  go_loopw [8] (fun i wr => ∃ j k : Nat, i = .int .i64 j ∧ j ≤ len1 ∧ j ≤ 40 ∧ Play w wr c w2.heap.size sv (.slice a0 xs.length cap0) v1 xs k k) (fun i _ => len1 - (intOf i).toNat)
  case atStart => exact ⟨0, 0, rfl, Nat.zero_le _, by omega, hP⟩
  case round =>
    obtain ⟨j, k, rfl, hj, hj40, hPr⟩ := hrel
    clear hP hcl hcw
    by_cases hlt : j < len1 ∧ j < 40
    · obtain ⟨hlt, hlt40⟩ := hlt
      obtain ⟨b, off, kd, n, rfl, hk1, hk2⟩ := unhide HA j hlt
      have d1 : decide (j < len1) = true := by simp; omega
      have hk1 := (hPr.bel.cell (p := ⟨b, off + j * 2, none⟩) (World.block_lt_of_cell? w _ hk1)).trans hk1
      have hk2 := (hPr.bel.cell (p := ⟨b, off + j * 2 + 1, none⟩) (World.block_lt_of_cell? w _ hk2)).trans hk2
      go_upto_block 2 with fail
      have hk := hPr.cur.le
      have hsm := hPr.cur.small
      have hlt' := hPr.lt
      have hml' := hPr.ml
      have hP3 := hPr.below (below3 wr (.cells #[.int .i64 kd, .int .i64 n] 30) (.cells #[] 5) (.cells #[] 5))
      have hn3 : (((wr.alloc (.cells #[.int .i64 kd, .int .i64 n] 30)).alloc (.cells #[] 5)).alloc (.cells #[] 5)).cell? ⟨wr.heap.size, 1, none⟩ = some (.int .i64 n) := by simp [go_sem]
      have hx3 : (((wr.alloc (.cells #[.int .i64 kd, .int .i64 n] 30)).alloc (.cells #[] 5)).alloc (.cells #[] 5)).ownsRow (w2.heap.size + 1) 5 1 (.slice (some ⟨wr.heap.size + 1, 0, none⟩) 0 0) 0 (U []) := ((own_empty_at _ _ _ _ (by simp) (by simp; omega)).alloc _)
      have hy3 : SlV (((wr.alloc (.cells #[.int .i64 kd, .int .i64 n] 30)).alloc (.cells #[] 5)).alloc (.cells #[] 5)) (.slice (some ⟨wr.heap.size + 1 + 1, 0, none⟩) 0 0) (U []) := SlV.ofOwn (own_empty_at _ (w2.heap.size + 1) _ _ (by simp) (by simp; omega))
      generalize hw3 : ((wr.alloc (.cells #[.int .i64 kd, .int .i64 n] 30)).alloc (.cells #[] 5)).alloc (.cells #[] 5) = w3 at *
      clear hw3
      go_cut [10, 11, 12, 13, 14, 15] (fun x y nn kk e f wc => ∃ (zs : List Int) (N E : Int) (k' : Nat), wc.ownsRow (w2.heap.size + 1) 5 1 x zs.length (U zs) ∧ SlV wc y (U zs) ∧ nn = .int .u64 N ∧ kk = .int .u64 N ∧ e = .int .i64 E ∧ f = .int .i64 E ∧ zs.length ≤ 1000000 ∧ Play w wc c w2.heap.size sv (.slice a0 xs.length cap0) v1 xs k' k')
      case first =>
        have hsb3 := hs.below hP3.bel
        clear hPr hk1 hk2 HA
        by_cases q1 : kd = 1
        · subst q1
          go_wp2_with fail
          refine (take_any c sv xs k n _ hP3.cur).mono ?_
          rintro e w4 ⟨v4, rfl, ho4, hc4, hg4⟩
          have hP4 := hP3.cursor hg4 hc4
          have hn4 := hg4.cell hn3 (by simp; omega)
          have ⟨_, g40, g41, _, _, _, _, _, _, _⟩ := hP4
          go_wp2_with fail
          refine (reftake_any _ xs k n _ (hs.below hP4.bel) hk hsm).mono ?_
          rintro e w5 ⟨v5, rfl, hs5, hb5, hv5⟩
          have hP5 := hP4.below hb5
          have ⟨_, g50, g51, f50, f51, _, _, _, _, _⟩ := hP5
          have hst := hP5.stored (k + takeN xs k n)
          have hNle := takeN_le xs k n hk
          have hml4 := hP4.ml
          generalize takeN xs k n = N at *
          generalize takeE xs k n = E at *
          go_wp2
          go_meet
          case rel =>
            have hgs : w5.grownBy _ (some w2.heap.size) := grown_trans (grown_setCell w5 w2.heap.size 0 (.slice a0 xs.length cap0)) (grown_setCell _ w2.heap.size 1 (.int .i64 ((k + N : Nat) : Int)))
            have hcl := cut_length xs k N hNle
            have ho4 := own_base ho4 (show w2.heap.size + 1 ≤ w3.heap.size from hP3.ml)
            refine ⟨cut xs k N, 0, E, k + N, ?_, ?_, rfl, rfl, rfl, rfl, by omega, hst⟩
            · rw [hcl]
              have h5 := ho4.kept (grown_of_below hb5 none) (by cases h : v4.ownBlock <;> simp)
              exact h5.kept hgs (.inr (fun e => by have := (h5.lt _ e).1; omega))
            · exact hs5.grown hgs (fun b e he => by have := hv5 b e; simp at he; omega)
        have b1 : (kd == 1) = false := by simpa using q1
        by_cases q2 : kd = 2
        · subst q2
          go_wp2_with fail
          refine (number_any c sv xs k n _ hP3.cur hbx).mono ?_
          rintro e w4 ⟨rfl, hc4, hg4⟩
          have hP4 := hP3.cursor hg4 hc4
          have hn4 := hg4.cell hn3 (by simp; omega)
          have hx4 := hx3.kept hg4 (by simp [Value.ownBlock]; omega)
          have hy4 := hy3.grown hg4 (by simp [Value.ownBlock]; omega)
          have ⟨_, g40, g41, _, _, _, _, _, _, _⟩ := hP4
          go_wp2_with fail
          refine (refnumber_any _ xs k n _ (hs.below hP4.bel) hbx hk hsm).mono ?_
          rintro e w5 ⟨rfl, hb5⟩
          have hP5 := hP4.below hb5
          have ⟨_, g50, g51, f50, f51, _, _, _, _, _⟩ := hP5
          have hst := hP5.stored (k + numN xs k n)
          have hx5 := hx4.kept (grown_of_below hb5 none) (by simp [Value.ownBlock])
          have hy5 := hy4.below hb5
          generalize num (cut xs k (numN xs k n)) = M at *
          generalize numN xs k n = N at *
          generalize numE xs k n = E at *
          go_wp2
          go_meet
          case rel =>
            have hgs : w5.grownBy _ (some w2.heap.size) := grown_trans (grown_setCell w5 w2.heap.size 0 (.slice a0 xs.length cap0)) (grown_setCell _ w2.heap.size 1 (.int .i64 ((k + N : Nat) : Int)))
            refine ⟨[], M, E, k + N, ?_, ?_, rfl, rfl, rfl, rfl, by simp, hst⟩
            · exact hx5.kept hgs (by simp [Value.ownBlock]; omega)
            · exact hy5.grown hgs (by simp [Value.ownBlock]; omega)
        have b2 : (kd == 2) = false := by simpa using q2
        by_cases q3 : kd = 3
        · subst q3
          go_wp2_with fail
          refine (rest_any c sv xs k _ hP3.cur).mono ?_
          rintro e w4 ⟨v4, rfl, ho4, hc4, hg4⟩
          have hP4 := hP3.cursor hg4 hc4
          have ⟨_, g40, g41, _, _, _, _, _, _, _⟩ := hP4
          go_wp2_with fail
          refine (reftake_any _ xs k _ _ (hs.below hP4.bel) hk hsm).mono ?_
          rintro e w5 ⟨v5, rfl, hs5, hb5, hv5⟩
          have eE : takeE xs k ((xs.length : Int) - k) = 0 := by simp [takeE]; omega
          have eN : takeN xs k ((xs.length : Int) - k) = xs.length - k := by simp only [takeN, eE, if_true]; omega
          have eC : cut xs k (xs.length - k) = xs.drop k := List.take_of_length_le (by simp)
          rw [eE, eN, show k + (xs.length - k) = xs.length from by omega]
          rw [eN, eC] at hs5
          have hP5 := hP4.below hb5
          have ⟨_, g50, g51, f50, f51, _, _, _, _, _⟩ := hP5
          have hst := hP5.stored xs.length
          have hml4 := hP4.ml
          clear eE eN eC
          go_wp2
          go_meet
          case rel =>
            have hgs : w5.grownBy _ (some w2.heap.size) := grown_trans (grown_setCell w5 w2.heap.size 0 (.slice a0 xs.length cap0)) (grown_setCell _ w2.heap.size 1 (.int .i64 (xs.length : Int)))
            have ho4 := own_base ho4 (show w2.heap.size + 1 ≤ w3.heap.size from hP3.ml)
            refine ⟨xs.drop k, 0, 0, xs.length, ?_, ?_, rfl, rfl, rfl, rfl, by rw [List.length_drop]; omega, hst⟩
            · rw [List.length_drop]
              have h5 := ho4.kept (grown_of_below hb5 none) (by cases h : v4.ownBlock <;> simp)
              exact h5.kept hgs (.inr (fun e => by have := (h5.lt _ e).1; omega))
            · exact hs5.grown hgs (fun b e he => by have := hv5 b e; simp at he; omega)
        have b3 : (kd == 3) = false := by simpa using q3
        by_cases q4 : kd = 4
        · subst q4
          go_wp2_with fail
          refine (back_any c sv xs k n _ hP3.cur).mono ?_
          rintro e w4 ⟨rfl, hc4, hg4⟩
          have hP4 := hP3.cursor hg4 hc4
          have hn4 := hg4.cell hn3 (by simp; omega)
          have hx4 := hx3.kept hg4 (by simp [Value.ownBlock]; omega)
          have hy4 := hy3.grown hg4 (by simp [Value.ownBlock]; omega)
          have ⟨_, g40, g41, _, _, _, _, _, _, _⟩ := hP4
          go_wp2_with fail
          refine (refback_any _ a0 xs.length cap0 k n _ rfl (by omega)).mono ?_
          rintro e w5 ⟨rfl, hb5⟩
          have hP5 := hP4.below hb5
          have ⟨_, g50, g51, f50, f51, _, _, _, _, _⟩ := hP5
          have hst := hP5.stored (backK k n)
          have hx5 := hx4.kept (grown_of_below hb5 none) (by simp [Value.ownBlock])
          have hy5 := hy4.below hb5
          generalize backK k n = N at *
          generalize backE k n = E at *
          go_wp2
          go_meet
          case rel =>
            have hgs : w5.grownBy _ (some w2.heap.size) := grown_trans (grown_setCell w5 w2.heap.size 0 (.slice a0 xs.length cap0)) (grown_setCell _ w2.heap.size 1 (.int .i64 (N : Int)))
            refine ⟨[], 0, E, N, ?_, ?_, rfl, rfl, rfl, rfl, by simp, hst⟩
            · exact hx5.kept hgs (by simp [Value.ownBlock]; omega)
            · exact hy5.grown hgs (by simp [Value.ownBlock]; omega)
        have b4 : (kd == 4) = false := by simpa using q4
        go_wp2
        go_meet
        case rel => exact ⟨[], 0, 0, k, hx3, hy3, rfl, rfl, rfl, rfl, by simp, hP3⟩
      case rest =>
        obtain ⟨zs, N, E, k', hox, hsy, rfl, rfl, rfl, rfl, hzl, hPc⟩ := hcut
        clear hPr hk1 hk2 hP3 hn3 hx3 hy3
        have hsx := SlV.ofOwn hox
        obtain ⟨ax, cx, rfl, -, -⟩ := hsx.shapeU rfl
        have hk' := hPc.cur.le
        have hsm' := hPc.cur.small
        have hPd : Play w wc.drew c w2.heap.size sv (.slice a0 xs.length cap0) v1 xs k' k' := hPc.below ((Below.refl _ _).drew)
        have hxd := hsx.drewd
        have hyd := hsy.drewd
        have hwr : IntKind.i64.wrap ((xs.length : Int) - k') = (xs.length : Int) - k' := IntWalk.i64_in _ ⟨by omega, by omega⟩
        have hax : 0 < zs.length → ∃ g, ax = some ⟨g, 0, none⟩ ∧ w2.heap.size + 1 ≤ g := fun hp => by
          rcases hox.2 with ⟨he, h0⟩ | ⟨g, cap, cur, he, hg, -⟩
          · omega
          · simp only [Value.slice.injEq] at he
            exact ⟨g, he.1, hg⟩
        have HX := hide hax
        clear hax
        go_wp2
        go_region_held3 (fun w' => (convert 22 9 (.slice ax zs.length cx)).run Try.prog w' = .ok (.string (strOfNums zs)) w' ∧ (convert 22 9 u11).run Try.prog w' = .ok (.string (strOfNums zs)) w' ∧ w'.cell? ⟨w2.heap.size, 1, none⟩ = some (.int .i64 (k' : Int)))
          (first
            | exact ⟨str_run hxd, str_run hyd, hPd.m1⟩
            | exact ⟨by assumption, by assumption, by assumption⟩)
          (first
            | (go_at_call 17; refine (at_any c sv xs k' _ hPd.cur).mono ?_; rintro e w' ⟨rfl, rfl⟩)
            | (go_at_call 18; refine (left_any c sv xs k' _ hPd.cur).mono ?_; rintro e w4 ⟨rfl, hb4, -⟩; have hP4 := hPd.below hb4; have hx4 := hxd.below hb4; have sx4 := str_run hx4; have sy4 := str_run (hyd.below hb4); have m4 := hP4.m1))
        have hox4 : w4.ownsRow (w2.heap.size + 1) 5 1 (.slice ax zs.length cx) zs.length (U zs) := (World.ownsRow.drew hox).kept (grown_of_below hb4 none) (by cases h : (Value.slice ax zs.length cx).ownBlock <;> simp)
        clear hox hsy hPc hsx hPd hxd hyd hb4 hx4 sx4 sy4 m4 hwr
        go_wp2
        go_loopw [16] (fun t wx => ∃ (i : Nat) (L : List Value), i ≤ zs.length ∧ t = .int .i64 i ∧ wx.ownsRow (w2.heap.size + 1) 5 1 (.slice ax zs.length cx) zs.length L ∧ Play w wx c w2.heap.size sv (.slice a0 xs.length cap0) v1 xs k' k') (fun t _ => zs.length - (intOf t).toNat)
        case atStart => exact ⟨0, _, Nat.zero_le _, rfl, hox4, hP4⟩
        case round =>
          obtain ⟨i, L, hi, rfl, hoL, hPx⟩ := hrel
          by_cases hlt2 : i < zs.length
          · obtain ⟨g, rfl, hg⟩ := unhide HX (by omega)
            have hst := hoL.stored i (.int .u8 71)
            have hfr := hoL.frozenAt i
            have hce : ∃ u, wr.cell? ⟨g, i, none⟩ = some u := by
              rw [hoL.cellAt _ (by omega)]
              exact ⟨_, List.getElem?_eq_getElem (by have := hoL.1; omega)⟩
            obtain ⟨u, hce⟩ := hce
            have hPs := hPx.grown hst.2 (fun b e => by simp at e; omega)
            go_wp2
            exact ⟨⟨i + 1, _, by omega, by go_num, hst.1, hPs⟩, by simp [intOf]; omega⟩
          · go_wp2
            exact ⟨⟨j + 1, k', by go_num, by omega, by omega, hPx⟩, by simp [intOf]; omega⟩
    · have d1 : decide (j < len1) = false ∨ (decide (j < len1) = true ∧ (40 : Int) ≤ (j : Int)) := by
        by_cases h : j < len1
        · exact .inr ⟨by simp; omega, by omega⟩
        · exact .inl (by simp; omega)
      have hbel := hPr.bel
      have hown := hPr.own
      clear HA hlt hPr
      rcases d1 with d1 | ⟨d1, d2⟩
      all_goals
        go_wp2_with fail
        refine (alive_true _).mono ?_
        rintro e w4 ⟨rfl, hb4⟩
        have c1 := str_run (hown.below hb4)
        have hb4 := hbel.trans (hb4.mono hbel.size)
        have c2 := str_run (hs.below hb4)
        go_wp2
        go_ret
        exact ⟨rfl, hb4⟩
end Go.Proofs.Ytcdkphkgjimamaa
