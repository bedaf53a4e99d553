/-
  Contracts of sums and differences of four words, over this seat's translation. Conditions: each as it says.
-/
import Derived.Test.YtgakpgcjninbgaaDoorFldA
import Derived.Test.YtgakpgcjninbgaaDoorKit7
namespace Go.Proofs.YtgakpgcjninbgaaDoor.F
open Go.RowKit
set_option linter.unusedVariables false
set_option maxRecDepth 10000

/-- Two, three, four blocks made, one behind the other. -/
theorem rows2 (w : World) (t1 t2 : TypeId) (us vs : List Value) : ∃ w4 : World, (w.alloc (.cells us.toArray t1)).alloc (.cells vs.toArray t2) = w4 ∧ Row w4 w.heap.size t1 us ∧ Row w4 (w.heap.size + 1) t2 vs ∧ Below w.heap.size w w4 ∧ w4.heap.size = w.heap.size + 1 + 1 := by
  have l1 := Below.more (Below.refl w.heap.size w) (Nat.le_refl _) (.cells us.toArray t1)
  have l2 := Below.more l1.1 l1.2 (.cells vs.toArray t2)
  exact ⟨_, rfl, (Row.new w t1 us).alloc _, Row.newAt _ _ (by simp) t2 vs, l2.1, by simp⟩
theorem rows3 (w : World) (t1 t2 t3 : TypeId) (us vs xs : List Value) : ∃ w4 : World, ((w.alloc (.cells us.toArray t1)).alloc (.cells vs.toArray t2)).alloc (.cells xs.toArray t3) = w4 ∧ Row w4 w.heap.size t1 us ∧ Row w4 (w.heap.size + 1) t2 vs ∧ Row w4 (w.heap.size + 1 + 1) t3 xs ∧ Below w.heap.size w w4 ∧ w4.heap.size = w.heap.size + 1 + 1 + 1 := by
  obtain ⟨w2, h2, r1, r2, hb, hs⟩ := rows2 w t1 t2 us vs
  rw [h2]
  exact ⟨_, rfl, r1.alloc _, r2.alloc _, Row.newAt _ _ hs.symm t3 xs, hb.alloc (by omega) _, by simp [hs]⟩
theorem rows4 (w : World) (t1 t2 t3 t4 : TypeId) (us vs xs ys : List Value) : ∃ w4 : World, (((w.alloc (.cells us.toArray t1)).alloc (.cells vs.toArray t2)).alloc (.cells xs.toArray t3)).alloc (.cells ys.toArray t4) = w4 ∧ Row w4 w.heap.size t1 us ∧ Row w4 (w.heap.size + 1) t2 vs ∧ Row w4 (w.heap.size + 1 + 1) t3 xs ∧ Row w4 (w.heap.size + 1 + 1 + 1) t4 ys ∧ Below w.heap.size w w4 ∧ w4.heap.size = w.heap.size + 1 + 1 + 1 + 1 := by
  obtain ⟨w2, h2, r1, r2, r3, hb, hs⟩ := rows3 w t1 t2 t3 us vs xs
  rw [h2]
  exact ⟨_, rfl, r1.alloc _, r2.alloc _, r3.alloc _, Row.newAt _ _ hs.symm t4 ys, hb.alloc (by omega) _, by simp [hs]⟩
theorem row_fill {w : World} {g : Nat} {e : TypeId} {q : IntKind} {l : List Nat} {n k : Nat} (h : Row w g e (C q (l ++ Z n))) (hl : l.length = k) (hn : 0 < n) (z : Nat) : Row (w.setCell ⟨g, k, none⟩ (.int q (z : Int))) g e (C q ((l ++ [z]) ++ Z (n - 1))) := by
  subst hl
  obtain ⟨m, rfl⟩ : ∃ m, n = m + 1 := ⟨n - 1, by omega⟩
  have := h.set l.length (.int q (z : Int))
  rw [← C_set, Z, List.replicate_succ, set_at] at this
  simpa [Z] using this

/-- What a function's own array and a value, its results, are read as. -/
theorem result_row2 {P : Program} {fn : Func} {R : Ending → World → Prop} {a : Act} {w : World} {p q : Tmp} {ty : TypeId} (hr : fn.results = #[.cell p ty, .tmp q]) {g : Nat} {us : List Value} {d : TypeDesc} {v : Value}
    (hp : a.tmps.getD p undef = .pointer (some ⟨g, 0, none⟩)) (hq : a.tmps.getD q undef = v) (hg : Row w g ty us) (hu : P.underlying ty = some d) (hd : (match d with | .struct _ | .array _ _ => true | _ => false) = true) (hi : (P.info? ty).map (·.size) = some us.length)
    (hdf : a.defers = []) (h : R (.returned (.tuple #[.agg us.toArray, v])) w) : bodyPost P fn R .ret a w := by
  refine bodyPost_ret ?_ hdf h
  have hp' : a.tmps[p]?.getD undef = .pointer (some ⟨g, 0, none⟩) := by simpa using hp
  have hq' : a.tmps[q]?.getD undef = v := by simpa using hq
  simp [results, hr, hp', hq', asAddr, run_loadVar_row w g ty ty us.toArray (0, 0) d hg hu (by cases d <;> simp_all) (by simpa using hi)]
theorem below_drawn {B : Nat} {w0 w : World} (h : Below B w0 w) : Below B w0 w.drew := ⟨h.os, h.tape, h.output, h.size, h.block⟩
theorem cell_other {w : World} {g h i j : Nat} {u x : Value} (hc : w.cell? ⟨g, j, none⟩ = some x) (hne : g ≠ h) : (w.setCell ⟨h, i, none⟩ u).drew.cell? ⟨g, j, none⟩ = some x := by
  show (w.setCell ⟨h, i, none⟩ u).cell? ⟨g, j, none⟩ = some x
  rw [World.cell?_of_block (w := w) (Below.heap_setCell _ _ _ _ hne)]
  exact hc

theorem minus_any (A B : Nat) (hA : A < 115792089237316195423570985008687907853269984665640564039457584007913129639936) (hB : B < 115792089237316195423570985008687907853269984665640564039457584007913129639936) (w : World) :
    Calls Tryd.prog 38 #[el A, el B] w fun e w' => e = .returned (.tuple #[el ((A + 115792089237316195423570985008687907853269984665640564039457584007913129639936 - B) % 115792089237316195423570985008687907853269984665640564039457584007913129639936), .bool (decide (A < B))]) ∧ Below w.heap.size w w' := by
  obtain ⟨hM, hBr⟩ := mns_four hA hB
  have hx := wds_lo A
  have hy := wds_lo B
  have lx := wds_length A
  have ly := wds_length B
  unfold el
  rw [← hM]
  have hdec : decide (A < B) = decide ((mns (wds A) (wds B) 4).2 = 1) := by rw [decide_eq_decide]; exact hBr.symm
  rw [hdec]
  clear hM hBr hdec
  generalize wds A = xs at *
  generalize wds B = ys at *
  obtain ⟨w4, h4, r1, r2, r3, r4, hL, hS⟩ := rows4 w 24 24 24 24 (C .u64 xs) (C .u64 ys) (C .u64 (Z 4)) (C .u64 (Z 4))
  go_enter Tryd.func38, Tryd.ntmps38
  go_wp2_with (refine wpList_alloc_row rfl 24 rfl _ z4 ?_)
  clear h4
  go_loopw [7, 9] (fun b i wr => ∃ k : Nat, k ≤ 4 ∧ i = .int .i64 k ∧ b = .int .u64 ((mns xs ys k).2 : Nat) ∧ Row wr w.heap.size 24 (C .u64 xs) ∧ Row wr (w.heap.size + 1) 24 (C .u64 ys) ∧ Row wr (w.heap.size + 1 + 1) 24 (C .u64 (Z 4)) ∧ Row wr (w.heap.size + 1 + 1 + 1) 24 (C .u64 ((mns xs ys k).1 ++ Z (4 - k))) ∧ Below w.heap.size w wr) (fun _ i _ => 4 - (intOf i).toNat)
  case atStart => exact ⟨0, Nat.zero_le _, rfl, rfl, r1, r2, r3, r4, hL⟩
  case round =>
    clear r1 r2 r3 r4 hL
    obtain ⟨k, hk, rfl, rfl, r1, r2, r3, r4, hL⟩ := hrel
    by_cases hlt : k < 4
    · have c1 := r1.cell k
      rw [C_get .u64 (by omega)] at c1
      have c2 := r2.cell k
      rw [C_get .u64 (by omega)] at c2
      have c4 := r4.cell k
      have hlen := mns_length xs ys k
      rw [C_get .u64 (by simp [hlen, Z_length]; omega)] at c4
      have hf := r4.frozen k
      obtain ⟨z, hz⟩ : ∃ z, (xs.getD k 0 + 18446744073709551616 - ys.getD k 0 - (mns xs ys k).2) % 18446744073709551616 = z := ⟨_, rfl⟩
      obtain ⟨c, hc⟩ : ∃ c, (if xs.getD k 0 < ys.getD k 0 + (mns xs ys k).2 then 1 else 0) = c := ⟨_, rfl⟩
      have hs := sub64_any (xs.getD k 0) (ys.getD k 0) (mns xs ys k).2 (mns_le xs ys k) hz hc
      have HN : Away ((mns xs ys (k + 1)) = ((mns xs ys k).1 ++ [z], c)) := ⟨by rw [← hz, ← hc]; rfl⟩
      have hki : (k : Int) < 4 := by omega
      clear hz hc hx hy
      generalize xs.getD k 0 = x at *
      generalize ys.getD k 0 = y at *
      generalize mns xs ys k = ms at *
      obtain ⟨m, b⟩ := ms
      simp only at *
      generalize (m ++ Z (4 - k)).getD k 0 = u at *
      go_wp2
      go_region_held3 (fun w' => w'.cell? ⟨w.heap.size, k, none⟩ = some (.int .u64 (x : Int)) ∧ w'.cell? ⟨w.heap.size + 1, k, none⟩ = some (.int .u64 (y : Int)))
        (first | exact ⟨c1, c2⟩ | exact ⟨cell_other c1 (by omega), cell_other c2 (by omega)⟩)
        (fail)
      have q1 := (r1.drew.other (i := k) (.int .u64 (z : Int)) (show w.heap.size ≠ w.heap.size + 1 + 1 + 1 by omega))
      have q2 := (r2.drew.other (i := k) (.int .u64 (z : Int)) (show w.heap.size + 1 ≠ w.heap.size + 1 + 1 + 1 by omega))
      have q3 := (r3.drew.other (i := k) (.int .u64 (z : Int)) (show w.heap.size + 1 + 1 ≠ w.heap.size + 1 + 1 + 1 by omega))
      have q4 := row_fill r4.drew hlen (by omega) z
      rw [show 4 - k - 1 = 4 - (k + 1) by omega] at q4
      have q5 := (below_drawn hL).setCell (p := ⟨w.heap.size + 1 + 1 + 1, k, none⟩) (by simp; omega) (.int .u64 (z : Int))
      clear r1 r2 r3 r4 hL c1 c2 c4 hs hf
      go_wp2
      go_roundw
      case rel =>
        exact ⟨k + 1, by omega, by go_num, by rw [HN.out], q1, q2, q3, by rw [HN.out]; exact q4, q5⟩
      case measure => simp [intOf]; omega
    · obtain rfl : k = 4 := by omega
      have h4 := mns_length xs ys 4
      generalize hms : mns xs ys 4 = ms at *
      have HM := Away.mk hms
      clear hms
      obtain ⟨m, b⟩ := ms
      simp only at *
      rw [show m ++ Z (4 - 4) = m by simp [Z]] at r4
      have hi := h4
      rw [← C_length .u64 m] at hi
      have hi4 : (Tryd.prog.info? 24).map (·.size) = some (C .u64 m).length := by rw [hi]; exact i4
      have db : ((b : Int) == 1) = decide (b = 1) := by rw [Bool.eq_iff_iff]; simp; omega
      clear h4
      go_wp2_with (first | refine wpList_load_row rfl 24 _ rfl _ rfl _ _ _ _ r4 Tryd.underlying24 rfl hi4 ?_ | (refine wpList_store_R rfl 24 _ _ rfl _ _ rfl rfl r3 hi4 (by rw [hi]; rfl) (C_allL _ _) ?_; intro w5 hR5 hg5 hz5))
      exact result_row2 Tryd.results38 (v := .bool (decide (b = 1))) rfl rfl hR5 Tryd.underlying24 rfl hi4 rfl ⟨by rw [HM.out], below_grown hL hg5 (by omega) r3.lt⟩
theorem plus_any (A B : Nat) (hA : A < 115792089237316195423570985008687907853269984665640564039457584007913129639936) (hB : B < 115792089237316195423570985008687907853269984665640564039457584007913129639936) (w : World) :
    Calls Tryd.prog 41 #[el A, el B] w fun e w' => e = .returned (.tuple #[el ((A + B) % 115792089237316195423570985008687907853269984665640564039457584007913129639936), .int .u64 ((A + B) / 115792089237316195423570985008687907853269984665640564039457584007913129639936 : Nat)]) ∧ Below w.heap.size w w' := by
  obtain ⟨hM, hBr⟩ := pls_four hA hB
  have hx := wds_lo A
  have hy := wds_lo B
  have lx := wds_length A
  have ly := wds_length B
  unfold el
  rw [← hM, ← hBr]
  clear hM hBr
  generalize wds A = xs at *
  generalize wds B = ys at *
  obtain ⟨w4, h4, r1, r2, r3, r4, hL, hS⟩ := rows4 w 24 24 24 24 (C .u64 xs) (C .u64 ys) (C .u64 (Z 4)) (C .u64 (Z 4))
  go_enter Tryd.func41, Tryd.ntmps41
  go_wp2_with (refine wpList_alloc_row rfl 24 rfl _ z4 ?_)
  clear h4
  go_loopw [7, 9] (fun b i wr => ∃ k : Nat, k ≤ 4 ∧ i = .int .i64 k ∧ b = .int .u64 ((pls xs ys k).2 : Nat) ∧ Row wr w.heap.size 24 (C .u64 xs) ∧ Row wr (w.heap.size + 1) 24 (C .u64 ys) ∧ Row wr (w.heap.size + 1 + 1) 24 (C .u64 (Z 4)) ∧ Row wr (w.heap.size + 1 + 1 + 1) 24 (C .u64 ((pls xs ys k).1 ++ Z (4 - k))) ∧ Below w.heap.size w wr) (fun _ i _ => 4 - (intOf i).toNat)
  case atStart => exact ⟨0, Nat.zero_le _, rfl, rfl, r1, r2, r3, r4, hL⟩
  case round =>
    clear r1 r2 r3 r4 hL
    obtain ⟨k, hk, rfl, rfl, r1, r2, r3, r4, hL⟩ := hrel
    by_cases hlt : k < 4
    · have c1 := r1.cell k
      rw [C_get .u64 (by omega)] at c1
      have c2 := r2.cell k
      rw [C_get .u64 (by omega)] at c2
      have c4 := r4.cell k
      have hlen := pls_length xs ys k
      rw [C_get .u64 (by simp [hlen, Z_length]; omega)] at c4
      have hf := r4.frozen k
      obtain ⟨z, hz⟩ : ∃ z, (xs.getD k 0 + ys.getD k 0 + (pls xs ys k).2) % 18446744073709551616 = z := ⟨_, rfl⟩
      obtain ⟨c, hc⟩ : ∃ c, (xs.getD k 0 + ys.getD k 0 + (pls xs ys k).2) / 18446744073709551616 = c := ⟨_, rfl⟩
      have hs := add64_any (xs.getD k 0) (ys.getD k 0) (pls xs ys k).2 (pls_le hx hy k) hz hc
      have HN : Away ((pls xs ys (k + 1)) = ((pls xs ys k).1 ++ [z], c)) := ⟨by rw [← hz, ← hc]; rfl⟩
      have hki : (k : Int) < 4 := by omega
      clear hz hc hx hy
      generalize xs.getD k 0 = x at *
      generalize ys.getD k 0 = y at *
      generalize pls xs ys k = ms at *
      obtain ⟨m, b⟩ := ms
      simp only at *
      generalize (m ++ Z (4 - k)).getD k 0 = u at *
      go_wp2
      go_region_held3 (fun w' => w'.cell? ⟨w.heap.size, k, none⟩ = some (.int .u64 (x : Int)) ∧ w'.cell? ⟨w.heap.size + 1, k, none⟩ = some (.int .u64 (y : Int)))
        (first | exact ⟨c1, c2⟩ | exact ⟨cell_other c1 (by omega), cell_other c2 (by omega)⟩)
        (fail)
      have q1 := (r1.drew.other (i := k) (.int .u64 (z : Int)) (show w.heap.size ≠ w.heap.size + 1 + 1 + 1 by omega))
      have q2 := (r2.drew.other (i := k) (.int .u64 (z : Int)) (show w.heap.size + 1 ≠ w.heap.size + 1 + 1 + 1 by omega))
      have q3 := (r3.drew.other (i := k) (.int .u64 (z : Int)) (show w.heap.size + 1 + 1 ≠ w.heap.size + 1 + 1 + 1 by omega))
      have q4 := row_fill r4.drew hlen (by omega) z
      rw [show 4 - k - 1 = 4 - (k + 1) by omega] at q4
      have q5 := (below_drawn hL).setCell (p := ⟨w.heap.size + 1 + 1 + 1, k, none⟩) (by simp; omega) (.int .u64 (z : Int))
      clear r1 r2 r3 r4 hL c1 c2 c4 hs hf
      go_wp2
      go_roundw
      case rel =>
        exact ⟨k + 1, by omega, by go_num, by rw [HN.out], q1, q2, q3, by rw [HN.out]; exact q4, q5⟩
      case measure => simp [intOf]; omega
    · obtain rfl : k = 4 := by omega
      have h4 := pls_length xs ys 4
      generalize hms : pls xs ys 4 = ms at *
      have HM := Away.mk hms
      clear hms
      obtain ⟨m, b⟩ := ms
      simp only at *
      rw [show m ++ Z (4 - 4) = m by simp [Z]] at r4
      have hi := h4
      rw [← C_length .u64 m] at hi
      have hi4 : (Tryd.prog.info? 24).map (·.size) = some (C .u64 m).length := by rw [hi]; exact i4
      clear h4
      go_wp2_with (first | refine wpList_load_row rfl 24 _ rfl _ rfl _ _ _ _ r4 Tryd.underlying24 rfl hi4 ?_ | (refine wpList_store_R rfl 24 _ _ rfl _ _ rfl rfl r3 hi4 (by rw [hi]; rfl) (C_allL _ _) ?_; intro w5 hR5 hg5 hz5))
      exact result_row2 Tryd.results41 (v := .int .u64 (b : Int)) rfl rfl hR5 Tryd.underlying24 rfl hi4 rfl ⟨by rw [HM.out], below_grown hL hg5 (by omega) r3.lt⟩
end Go.Proofs.YtgakpgcjninbgaaDoor.F
