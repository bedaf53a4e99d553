/-
  Contracts of the document's product, over this seat's translation. Conditions: each as it says.
-/
import Derived.Test.YtgakpgcjninbgaaDoorFldK
namespace Go.Proofs.YtgakpgcjninbgaaDoor.F
open Go.RowKit
set_option linter.unusedVariables false
set_option maxRecDepth 10000

theorem ready_threeL {P : Program} {md : Region.Mode} {L : List Oper} {Q : Exit → Act → World → Prop} {S : World → Prop} {fuel : Nat} {listed : Array Bool} {a : Act} {w : World} {i j k : Nat} {o p q : Oper} (hr : Region.ready md L.toArray listed = [i, j, k]) (ho : L[i]? = some o) (hp : L[j]? = some p) (hq : L[k]? = some q) (hw : Region.wanted o (yielded L.toArray a.tmps) = true) (hv : Region.wanted p (yielded L.toArray a.tmps) = true) (hu : Region.wanted q (yielded L.toArray a.tmps) = true)
    (h : ∀ K' : Act → World → Prop, Shut (∀ a w, S w → (S w → wpAnyH P md L.toArray Q S fuel (listed.setIfInBounds i true) a w) → K' a w) → Oper.wp P o a w K' Q)
    (h2 : ∀ K' : Act → World → Prop, Shut (∀ a w, S w → (S w → wpAnyH P md L.toArray Q S fuel (listed.setIfInBounds j true) a w) → K' a w) → Oper.wp P p a w K' Q)
    (h3 : ∀ K' : Act → World → Prop, Shut (∀ a w, S w → (S w → wpAnyH P md L.toArray Q S fuel (listed.setIfInBounds k true) a w) → K' a w) → Oper.wp P q a w K' Q) : wpAnyH P md L.toArray Q S (fuel + 1) listed a w :=
  wpAnyH_ready hr (by simp) (AllReadyH.cons (getL ho) (fun K hK => by rw [if_pos hw]; exact h K hK) (AllReadyH.cons (getL hp) (fun K hK => by rw [if_pos hv]; exact h2 K hK) (AllReadyH.cons (getL hq) (fun K hK => by rw [if_pos hu]; exact h3 K hK) AllReadyH.nil)))
theorem id8 (N : Nat) : (Tryd.prog.info? 55).map (·.size) = some (C .u64 (dig 4294967296 8 N)).length := by rw [C_length, dig_length]; exact i8
theorem zd8 (N : Nat) : (C .u64 (Z 8)).length = (C .u64 (dig 4294967296 8 N)).length := by rw [C_length, C_length, dig_length]; rfl

/-- What the product's call holds. -/
structure HP (g : Nat) (w0 w : World) (us vs xs : List Value) : Prop where
  r1 : Row w g 24 us
  r2 : Row w (g + 1) 24 vs
  r3 : Row w (g + 1 + 1) 57 xs
  bel : Below g w0 w
  lt : g + 1 + 1 < w.heap.size
section
variable {g : Nat} {w0 w w' : World} {us vs xs : List Value}
theorem HP.begin (w : World) (us vs xs : List Value) : ∃ w4 : World, ((w.alloc (.cells us.toArray 24)).alloc (.cells vs.toArray 24)).alloc (.cells xs.toArray 57) = w4 ∧ HP w.heap.size w w4 us vs xs := by
  obtain ⟨w4, h4, r1, r2, r3, hL, hS⟩ := rows3 w 24 24 57 us vs xs
  exact ⟨w4, h4, r1, r2, r3, hL, by omega⟩
theorem HP.below (h : HP g w0 w us vs xs) (hb : Below w.heap.size w w') : HP g w0 w' us vs xs :=
  ⟨h.r1.belowS hb, h.r2.belowS hb, h.r3.belowS hb, h.bel.trans (hb.mono (by have := h.lt; omega)), by have := h.lt; have := hb.size; omega⟩
theorem HP.drew (h : HP g w0 w us vs xs) : HP g w0 w.drew us vs xs := ⟨h.r1, h.r2, h.r3, below_drawn h.bel, h.lt⟩
theorem HP.drewN (h : HP g w0 w us vs xs) (n : Nat) : HP g w0 (w.drewN n) us vs xs := ⟨h.r1, h.r2, h.r3, below_drewN h.bel n, h.lt⟩
theorem HP.alloc (h : HP g w0 w us vs xs) (o : Obj) : HP g w0 (w.alloc o) us vs xs :=
  ⟨h.r1.alloc o, h.r2.alloc o, h.r3.alloc o, h.bel.alloc (by have := h.lt; omega) o, by have := h.lt; rw [alloc_size]; omega⟩
theorem HP.grown (h : HP g w0 w us vs xs) {k : Nat} (hg : w.grownBy w' (some k)) (hk : g + 1 + 1 < k) : HP g w0 w' us vs xs :=
  ⟨h.r1.grown hg (by simp; omega), h.r2.grown hg (by simp; omega), h.r3.grown hg (by simp; omega), h.bel.grown hg (by have := h.lt; omega) (fun k' hk' => by simp only [Option.some.injEq] at hk'; omega), by have := h.lt; have := hg.size; omega⟩
theorem HP.cell (h : HP g w0 w us vs xs) {k i : Nat} (u : Value) (hk : g + 1 + 1 < k) : HP g w0 (w.setCell ⟨k, i, none⟩ u) us vs xs := h.grown (grown_set w k i u) hk
theorem new_rowP (h : HP g w0 w us vs xs) : ∃ g3 : Nat, w.heap.size = g3 ∧ Row (w.alloc (.cells (C .u64 (Z 8)).toArray 55)) g3 55 (C .u64 (Z 8)) ∧ g + 1 + 1 < g3 :=
  ⟨_, rfl, Row.new w _ _, h.lt⟩
end

set_option maxHeartbeats 8000000 in
theorem refproduct_any (A B : Nat) (hA : A < 115792089237316195423570985008687907853269984665640564039457584007913129639936) (hB : B < 115792089237316195423570985008687907853269984665640564039457584007913129639936) (w : World) : Calls Tryd.prog 46 #[el A, el B] w fun e w' => (∃ p : List Nat, e = .returned (.agg (C .u64 p).toArray) ∧ p.length = 16 ∧ Lo 4294967296 p ∧ val 4294967296 p = A * B) ∧ Below w.heap.size w w' := by
  obtain ⟨w4, h4, h⟩ := HP.begin w (C .u64 (wds A)) (C .u64 (wds B)) (C .u64 (Z 16))
  unfold el
  go_enter Tryd.func46, Tryd.ntmps46
  go_upto_region 1 with (refine wpList_alloc_row rfl 57 rfl _ z16 ?_)
  try simp only [Act.put, List.setIfInBounds_toArray, List.set_cons_zero, List.set_cons_succ, alloc_size, h4]
  clear h4
  replace h := h.drew
  go_cut [5, 6] (fun v5 v6 wc => ∃ g4 g5, v5 = .pointer (some ⟨g4, 0, none⟩) ∧ v6 = .pointer (some ⟨g5, 0, none⟩) ∧ Row wc g4 55 (C .u64 (dig 4294967296 8 A)) ∧ Row wc g5 55 (C .u64 (dig 4294967296 8 B)) ∧ g4 ≠ g5 ∧ w.heap.size + 1 + 1 < g4 ∧ w.heap.size + 1 + 1 < g5 ∧ HP w.heap.size w wc (C .u64 (wds A)) (C .u64 (wds B)) (C .u64 (Z 16)))
  case first =>
    refine wp_region_noPanic ?_
    refine wp_region_held_drew (S := fun w' => HP w.heap.size w w' (C .u64 (wds A)) (C .u64 (wds B)) (C .u64 (Z 16))) (by kernel_rfl) h (fun hHeld => ?_)
    refine wpAnyH_takeL (i := 0) (v := (.agg (C .u64 (wds A)).toArray)) rfl (by kernel_rfl) (by kernel_rfl) (by kernel_rfl) (fun _ _ _ h => h) (by rfl) ?h0 (by assumption) ?_
    case h0 => intro w hSw; exact exec_load_R 24 _ rfl rfl hSw.r1 Tryd.underlying24 (ie4 A)
    simp only [Act.put, List.setIfInBounds_toArray, List.set_cons_zero, List.set_cons_succ]
    refine wpAnyH_takeL (i := 2) (v := (.agg (C .u64 (wds B)).toArray)) rfl (by kernel_rfl) (by kernel_rfl) (by kernel_rfl) (fun _ _ _ h => h) (by rfl) ?h2 (by assumption) ?_
    case h2 => intro w hSw; exact exec_load_R 24 _ rfl rfl hSw.r2 Tryd.underlying24 (ie4 B)
    simp only [Act.put, List.setIfInBounds_toArray, List.set_cons_zero, List.set_cons_succ]
    refine ready_threeL (i := 1) (j := 4) (k := 5) (by kernel_rfl) rfl rfl rfl (by rfl) (by rfl) (by rfl) (fun K hK => ?_) (fun K hK => ?_) (fun K hK => ?_)
    · go_simp
      refine (halves_any A hA _).mono ?_
      rintro _ wn ⟨rfl, hb⟩
      replace h := h.below hb
      clear hb
      refine hK.out _ _ h (fun hHeld => ?_)
      clear hK K
      refine ready_threeL (i := 3) (j := 4) (k := 5) (by kernel_rfl) rfl rfl rfl (by rfl) (by rfl) (by rfl) (fun K hK => ?_) (fun K hK => ?_) (fun K hK => ?_)
      · go_simp
        refine (halves_any B hB _).mono ?_
        rintro _ wn ⟨rfl, hb⟩
        replace h := h.below hb
        clear hb
        refine hK.out _ _ h (fun hHeld => ?_)
        clear hK K
        refine ready_twoL (i := 4) (j := 5) (by kernel_rfl) rfl rfl (by rfl) (by rfl) (fun K hK => ?_) (fun K hK => ?_)
        · refine wp_alloc_R 55 rfl (C .u64 (Z 8)) z4' ?_
          obtain ⟨g4, hg4, q4, hq4⟩ := new_rowP h
          replace h := h.alloc (.cells (C .u64 (Z 8)).toArray 55)
          rw [hg4]
          clear hg4
          refine hK.out _ _ h (fun hHeld => ?_)
          clear hK K
          refine allReadyH_oneL (i := 5) (by kernel_rfl) rfl (by rfl) (fun K hK => ?_)
          refine wp_alloc_R 55 rfl (C .u64 (Z 8)) z4' ?_
          have n45 := q4.lt
          obtain ⟨g5, hg5, q5, hq5⟩ := new_rowP h
          rw [hg5] at n45
          replace q4 := q4.alloc (.cells (C .u64 (Z 8)).toArray 55)
          replace h := h.alloc (.cells (C .u64 (Z 8)).toArray 55)
          rw [hg5]
          clear hg5
          refine hK.out _ _ h (fun hHeld => ?_)
          clear hK K
          refine allReadyH_oneL (i := 6) (by kernel_rfl) rfl (by rfl) (fun K hK => ?_)
          refine wp_store_R 55 _ _ rfl _ (C .u64 (dig 4294967296 8 A)) rfl rfl q4 (id8 _) (zd8 _) (C_allL _ _) ?_
          intro ws4 p4 hg hz
          replace q5 := q5.grown hg (by simp; omega)
          replace h := h.grown hg hq4
          clear q4 hg hz
          refine hK.out _ _ h (fun hHeld => ?_)
          clear hK K
          refine allReadyH_oneL (i := 7) (by kernel_rfl) rfl (by rfl) (fun K hK => ?_)
          refine wp_store_R 55 _ _ rfl _ (C .u64 (dig 4294967296 8 B)) rfl rfl q5 (id8 _) (zd8 _) (C_allL _ _) ?_
          intro ws5 p5 hg hz
          replace p4 := p4.grown hg (by simp; omega)
          replace h := h.grown hg hq5
          clear q5 hg hz
          refine hK.out _ _ h (fun hHeld => ?_)
          clear hK K
          refine wpAnyH_done (by kernel_rfl) ?_ _
          refine NoPanic.normal ?_
          go_wp2
          go_meet
          case rel => exact ⟨g4, g5, rfl, rfl, p4, p5, by omega, by omega, by omega, h⟩
        · refine wp_alloc_R 55 rfl (C .u64 (Z 8)) z4' ?_
          obtain ⟨g5, hg5, q5, hq5⟩ := new_rowP h
          replace h := h.alloc (.cells (C .u64 (Z 8)).toArray 55)
          rw [hg5]
          clear hg5
          refine hK.out _ _ h (fun hHeld => ?_)
          clear hK K
          refine allReadyH_oneL (i := 4) (by kernel_rfl) rfl (by rfl) (fun K hK => ?_)
          refine wp_alloc_R 55 rfl (C .u64 (Z 8)) z4' ?_
          have n54 := q5.lt
          obtain ⟨g4, hg4, q4, hq4⟩ := new_rowP h
          rw [hg4] at n54
          replace q5 := q5.alloc (.cells (C .u64 (Z 8)).toArray 55)
          replace h := h.alloc (.cells (C .u64 (Z 8)).toArray 55)
          rw [hg4]
          clear hg4
          refine hK.out _ _ h (fun hHeld => ?_)
          clear hK K
          refine allReadyH_oneL (i := 6) (by kernel_rfl) rfl (by rfl) (fun K hK => ?_)
          refine wp_store_R 55 _ _ rfl _ (C .u64 (dig 4294967296 8 A)) rfl rfl q4 (id8 _) (zd8 _) (C_allL _ _) ?_
          intro ws4 p4 hg hz
          replace q5 := q5.grown hg (by simp; omega)
          replace h := h.grown hg hq4
          clear q4 hg hz
          refine hK.out _ _ h (fun hHeld => ?_)
          clear hK K
          refine allReadyH_oneL (i := 7) (by kernel_rfl) rfl (by rfl) (fun K hK => ?_)
          refine wp_store_R 55 _ _ rfl _ (C .u64 (dig 4294967296 8 B)) rfl rfl q5 (id8 _) (zd8 _) (C_allL _ _) ?_
          intro ws5 p5 hg hz
          replace p4 := p4.grown hg (by simp; omega)
          replace h := h.grown hg hq5
          clear q5 hg hz
          refine hK.out _ _ h (fun hHeld => ?_)
          clear hK K
          refine wpAnyH_done (by kernel_rfl) ?_ _
          refine NoPanic.normal ?_
          go_wp2
          go_meet
          case rel => exact ⟨g4, g5, rfl, rfl, p4, p5, by omega, by omega, by omega, h⟩
      · refine wp_alloc_R 55 rfl (C .u64 (Z 8)) z4' ?_
        obtain ⟨g4, hg4, q4, hq4⟩ := new_rowP h
        replace h := h.alloc (.cells (C .u64 (Z 8)).toArray 55)
        rw [hg4]
        clear hg4
        refine hK.out _ _ h (fun hHeld => ?_)
        clear hK K
        refine ready_twoL (i := 3) (j := 5) (by kernel_rfl) rfl rfl (by rfl) (by rfl) (fun K hK => ?_) (fun K hK => ?_)
        · go_simp
          refine (halves_any B hB _).mono ?_
          rintro _ wn ⟨rfl, hb⟩
          replace q4 := q4.belowS hb
          replace h := h.below hb
          clear hb
          refine hK.out _ _ h (fun hHeld => ?_)
          clear hK K
          refine allReadyH_oneL (i := 5) (by kernel_rfl) rfl (by rfl) (fun K hK => ?_)
          refine wp_alloc_R 55 rfl (C .u64 (Z 8)) z4' ?_
          have n45 := q4.lt
          obtain ⟨g5, hg5, q5, hq5⟩ := new_rowP h
          rw [hg5] at n45
          replace q4 := q4.alloc (.cells (C .u64 (Z 8)).toArray 55)
          replace h := h.alloc (.cells (C .u64 (Z 8)).toArray 55)
          rw [hg5]
          clear hg5
          refine hK.out _ _ h (fun hHeld => ?_)
          clear hK K
          refine allReadyH_oneL (i := 6) (by kernel_rfl) rfl (by rfl) (fun K hK => ?_)
          refine wp_store_R 55 _ _ rfl _ (C .u64 (dig 4294967296 8 A)) rfl rfl q4 (id8 _) (zd8 _) (C_allL _ _) ?_
          intro ws4 p4 hg hz
          replace q5 := q5.grown hg (by simp; omega)
          replace h := h.grown hg hq4
          clear q4 hg hz
          refine hK.out _ _ h (fun hHeld => ?_)
          clear hK K
          refine allReadyH_oneL (i := 7) (by kernel_rfl) rfl (by rfl) (fun K hK => ?_)
          refine wp_store_R 55 _ _ rfl _ (C .u64 (dig 4294967296 8 B)) rfl rfl q5 (id8 _) (zd8 _) (C_allL _ _) ?_
          intro ws5 p5 hg hz
          replace p4 := p4.grown hg (by simp; omega)
          replace h := h.grown hg hq5
          clear q5 hg hz
          refine hK.out _ _ h (fun hHeld => ?_)
          clear hK K
          refine wpAnyH_done (by kernel_rfl) ?_ _
          refine NoPanic.normal ?_
          go_wp2
          go_meet
          case rel => exact ⟨g4, g5, rfl, rfl, p4, p5, by omega, by omega, by omega, h⟩
        · refine wp_alloc_R 55 rfl (C .u64 (Z 8)) z4' ?_
          have n45 := q4.lt
          obtain ⟨g5, hg5, q5, hq5⟩ := new_rowP h
          rw [hg5] at n45
          replace q4 := q4.alloc (.cells (C .u64 (Z 8)).toArray 55)
          replace h := h.alloc (.cells (C .u64 (Z 8)).toArray 55)
          rw [hg5]
          clear hg5
          refine hK.out _ _ h (fun hHeld => ?_)
          clear hK K
          refine allReadyH_oneL (i := 3) (by kernel_rfl) rfl (by rfl) (fun K hK => ?_)
          go_simp
          refine (halves_any B hB _).mono ?_
          rintro _ wn ⟨rfl, hb⟩
          replace q4 := q4.belowS hb
          replace q5 := q5.belowS hb
          replace h := h.below hb
          clear hb
          refine hK.out _ _ h (fun hHeld => ?_)
          clear hK K
          refine allReadyH_oneL (i := 6) (by kernel_rfl) rfl (by rfl) (fun K hK => ?_)
          refine wp_store_R 55 _ _ rfl _ (C .u64 (dig 4294967296 8 A)) rfl rfl q4 (id8 _) (zd8 _) (C_allL _ _) ?_
          intro ws4 p4 hg hz
          replace q5 := q5.grown hg (by simp; omega)
          replace h := h.grown hg hq4
          clear q4 hg hz
          refine hK.out _ _ h (fun hHeld => ?_)
          clear hK K
          refine allReadyH_oneL (i := 7) (by kernel_rfl) rfl (by rfl) (fun K hK => ?_)
          refine wp_store_R 55 _ _ rfl _ (C .u64 (dig 4294967296 8 B)) rfl rfl q5 (id8 _) (zd8 _) (C_allL _ _) ?_
          intro ws5 p5 hg hz
          replace p4 := p4.grown hg (by simp; omega)
          replace h := h.grown hg hq5
          clear q5 hg hz
          refine hK.out _ _ h (fun hHeld => ?_)
          clear hK K
          refine wpAnyH_done (by kernel_rfl) ?_ _
          refine NoPanic.normal ?_
          go_wp2
          go_meet
          case rel => exact ⟨g4, g5, rfl, rfl, p4, p5, by omega, by omega, by omega, h⟩
      · refine wp_alloc_R 55 rfl (C .u64 (Z 8)) z4' ?_
        obtain ⟨g5, hg5, q5, hq5⟩ := new_rowP h
        replace h := h.alloc (.cells (C .u64 (Z 8)).toArray 55)
        rw [hg5]
        clear hg5
        refine hK.out _ _ h (fun hHeld => ?_)
        clear hK K
        refine ready_twoL (i := 3) (j := 4) (by kernel_rfl) rfl rfl (by rfl) (by rfl) (fun K hK => ?_) (fun K hK => ?_)
        · go_simp
          refine (halves_any B hB _).mono ?_
          rintro _ wn ⟨rfl, hb⟩
          replace q5 := q5.belowS hb
          replace h := h.below hb
          clear hb
          refine hK.out _ _ h (fun hHeld => ?_)
          clear hK K
          refine allReadyH_oneL (i := 4) (by kernel_rfl) rfl (by rfl) (fun K hK => ?_)
          refine wp_alloc_R 55 rfl (C .u64 (Z 8)) z4' ?_
          have n54 := q5.lt
          obtain ⟨g4, hg4, q4, hq4⟩ := new_rowP h
          rw [hg4] at n54
          replace q5 := q5.alloc (.cells (C .u64 (Z 8)).toArray 55)
          replace h := h.alloc (.cells (C .u64 (Z 8)).toArray 55)
          rw [hg4]
          clear hg4
          refine hK.out _ _ h (fun hHeld => ?_)
          clear hK K
          refine allReadyH_oneL (i := 6) (by kernel_rfl) rfl (by rfl) (fun K hK => ?_)
          refine wp_store_R 55 _ _ rfl _ (C .u64 (dig 4294967296 8 A)) rfl rfl q4 (id8 _) (zd8 _) (C_allL _ _) ?_
          intro ws4 p4 hg hz
          replace q5 := q5.grown hg (by simp; omega)
          replace h := h.grown hg hq4
          clear q4 hg hz
          refine hK.out _ _ h (fun hHeld => ?_)
          clear hK K
          refine allReadyH_oneL (i := 7) (by kernel_rfl) rfl (by rfl) (fun K hK => ?_)
          refine wp_store_R 55 _ _ rfl _ (C .u64 (dig 4294967296 8 B)) rfl rfl q5 (id8 _) (zd8 _) (C_allL _ _) ?_
          intro ws5 p5 hg hz
          replace p4 := p4.grown hg (by simp; omega)
          replace h := h.grown hg hq5
          clear q5 hg hz
          refine hK.out _ _ h (fun hHeld => ?_)
          clear hK K
          refine wpAnyH_done (by kernel_rfl) ?_ _
          refine NoPanic.normal ?_
          go_wp2
          go_meet
          case rel => exact ⟨g4, g5, rfl, rfl, p4, p5, by omega, by omega, by omega, h⟩
        · refine wp_alloc_R 55 rfl (C .u64 (Z 8)) z4' ?_
          have n54 := q5.lt
          obtain ⟨g4, hg4, q4, hq4⟩ := new_rowP h
          rw [hg4] at n54
          replace q5 := q5.alloc (.cells (C .u64 (Z 8)).toArray 55)
          replace h := h.alloc (.cells (C .u64 (Z 8)).toArray 55)
          rw [hg4]
          clear hg4
          refine hK.out _ _ h (fun hHeld => ?_)
          clear hK K
          refine allReadyH_oneL (i := 3) (by kernel_rfl) rfl (by rfl) (fun K hK => ?_)
          go_simp
          refine (halves_any B hB _).mono ?_
          rintro _ wn ⟨rfl, hb⟩
          replace q5 := q5.belowS hb
          replace q4 := q4.belowS hb
          replace h := h.below hb
          clear hb
          refine hK.out _ _ h (fun hHeld => ?_)
          clear hK K
          refine allReadyH_oneL (i := 6) (by kernel_rfl) rfl (by rfl) (fun K hK => ?_)
          refine wp_store_R 55 _ _ rfl _ (C .u64 (dig 4294967296 8 A)) rfl rfl q4 (id8 _) (zd8 _) (C_allL _ _) ?_
          intro ws4 p4 hg hz
          replace q5 := q5.grown hg (by simp; omega)
          replace h := h.grown hg hq4
          clear q4 hg hz
          refine hK.out _ _ h (fun hHeld => ?_)
          clear hK K
          refine allReadyH_oneL (i := 7) (by kernel_rfl) rfl (by rfl) (fun K hK => ?_)
          refine wp_store_R 55 _ _ rfl _ (C .u64 (dig 4294967296 8 B)) rfl rfl q5 (id8 _) (zd8 _) (C_allL _ _) ?_
          intro ws5 p5 hg hz
          replace p4 := p4.grown hg (by simp; omega)
          replace h := h.grown hg hq5
          clear q5 hg hz
          refine hK.out _ _ h (fun hHeld => ?_)
          clear hK K
          refine wpAnyH_done (by kernel_rfl) ?_ _
          refine NoPanic.normal ?_
          go_wp2
          go_meet
          case rel => exact ⟨g4, g5, rfl, rfl, p4, p5, by omega, by omega, by omega, h⟩
    · refine wp_alloc_R 55 rfl (C .u64 (Z 8)) z4' ?_
      obtain ⟨g4, hg4, q4, hq4⟩ := new_rowP h
      replace h := h.alloc (.cells (C .u64 (Z 8)).toArray 55)
      rw [hg4]
      clear hg4
      refine hK.out _ _ h (fun hHeld => ?_)
      clear hK K
      refine ready_twoL (i := 1) (j := 5) (by kernel_rfl) rfl rfl (by rfl) (by rfl) (fun K hK => ?_) (fun K hK => ?_)
      · go_simp
        refine (halves_any A hA _).mono ?_
        rintro _ wn ⟨rfl, hb⟩
        replace q4 := q4.belowS hb
        replace h := h.below hb
        clear hb
        refine hK.out _ _ h (fun hHeld => ?_)
        clear hK K
        refine ready_twoL (i := 3) (j := 5) (by kernel_rfl) rfl rfl (by rfl) (by rfl) (fun K hK => ?_) (fun K hK => ?_)
        · go_simp
          refine (halves_any B hB _).mono ?_
          rintro _ wn ⟨rfl, hb⟩
          replace q4 := q4.belowS hb
          replace h := h.below hb
          clear hb
          refine hK.out _ _ h (fun hHeld => ?_)
          clear hK K
          refine allReadyH_oneL (i := 5) (by kernel_rfl) rfl (by rfl) (fun K hK => ?_)
          refine wp_alloc_R 55 rfl (C .u64 (Z 8)) z4' ?_
          have n45 := q4.lt
          obtain ⟨g5, hg5, q5, hq5⟩ := new_rowP h
          rw [hg5] at n45
          replace q4 := q4.alloc (.cells (C .u64 (Z 8)).toArray 55)
          replace h := h.alloc (.cells (C .u64 (Z 8)).toArray 55)
          rw [hg5]
          clear hg5
          refine hK.out _ _ h (fun hHeld => ?_)
          clear hK K
          refine allReadyH_oneL (i := 6) (by kernel_rfl) rfl (by rfl) (fun K hK => ?_)
          refine wp_store_R 55 _ _ rfl _ (C .u64 (dig 4294967296 8 A)) rfl rfl q4 (id8 _) (zd8 _) (C_allL _ _) ?_
          intro ws4 p4 hg hz
          replace q5 := q5.grown hg (by simp; omega)
          replace h := h.grown hg hq4
          clear q4 hg hz
          refine hK.out _ _ h (fun hHeld => ?_)
          clear hK K
          refine allReadyH_oneL (i := 7) (by kernel_rfl) rfl (by rfl) (fun K hK => ?_)
          refine wp_store_R 55 _ _ rfl _ (C .u64 (dig 4294967296 8 B)) rfl rfl q5 (id8 _) (zd8 _) (C_allL _ _) ?_
          intro ws5 p5 hg hz
          replace p4 := p4.grown hg (by simp; omega)
          replace h := h.grown hg hq5
          clear q5 hg hz
          refine hK.out _ _ h (fun hHeld => ?_)
          clear hK K
          refine wpAnyH_done (by kernel_rfl) ?_ _
          refine NoPanic.normal ?_
          go_wp2
          go_meet
          case rel => exact ⟨g4, g5, rfl, rfl, p4, p5, by omega, by omega, by omega, h⟩
        · refine wp_alloc_R 55 rfl (C .u64 (Z 8)) z4' ?_
          have n45 := q4.lt
          obtain ⟨g5, hg5, q5, hq5⟩ := new_rowP h
          rw [hg5] at n45
          replace q4 := q4.alloc (.cells (C .u64 (Z 8)).toArray 55)
          replace h := h.alloc (.cells (C .u64 (Z 8)).toArray 55)
          rw [hg5]
          clear hg5
          refine hK.out _ _ h (fun hHeld => ?_)
          clear hK K
          refine allReadyH_oneL (i := 3) (by kernel_rfl) rfl (by rfl) (fun K hK => ?_)
          go_simp
          refine (halves_any B hB _).mono ?_
          rintro _ wn ⟨rfl, hb⟩
          replace q4 := q4.belowS hb
          replace q5 := q5.belowS hb
          replace h := h.below hb
          clear hb
          refine hK.out _ _ h (fun hHeld => ?_)
          clear hK K
          refine allReadyH_oneL (i := 6) (by kernel_rfl) rfl (by rfl) (fun K hK => ?_)
          refine wp_store_R 55 _ _ rfl _ (C .u64 (dig 4294967296 8 A)) rfl rfl q4 (id8 _) (zd8 _) (C_allL _ _) ?_
          intro ws4 p4 hg hz
          replace q5 := q5.grown hg (by simp; omega)
          replace h := h.grown hg hq4
          clear q4 hg hz
          refine hK.out _ _ h (fun hHeld => ?_)
          clear hK K
          refine allReadyH_oneL (i := 7) (by kernel_rfl) rfl (by rfl) (fun K hK => ?_)
          refine wp_store_R 55 _ _ rfl _ (C .u64 (dig 4294967296 8 B)) rfl rfl q5 (id8 _) (zd8 _) (C_allL _ _) ?_
          intro ws5 p5 hg hz
          replace p4 := p4.grown hg (by simp; omega)
          replace h := h.grown hg hq5
          clear q5 hg hz
          refine hK.out _ _ h (fun hHeld => ?_)
          clear hK K
          refine wpAnyH_done (by kernel_rfl) ?_ _
          refine NoPanic.normal ?_
          go_wp2
          go_meet
          case rel => exact ⟨g4, g5, rfl, rfl, p4, p5, by omega, by omega, by omega, h⟩
      · refine wp_alloc_R 55 rfl (C .u64 (Z 8)) z4' ?_
        have n45 := q4.lt
        obtain ⟨g5, hg5, q5, hq5⟩ := new_rowP h
        rw [hg5] at n45
        replace q4 := q4.alloc (.cells (C .u64 (Z 8)).toArray 55)
        replace h := h.alloc (.cells (C .u64 (Z 8)).toArray 55)
        rw [hg5]
        clear hg5
        refine hK.out _ _ h (fun hHeld => ?_)
        clear hK K
        refine allReadyH_oneL (i := 1) (by kernel_rfl) rfl (by rfl) (fun K hK => ?_)
        go_simp
        refine (halves_any A hA _).mono ?_
        rintro _ wn ⟨rfl, hb⟩
        replace q4 := q4.belowS hb
        replace q5 := q5.belowS hb
        replace h := h.below hb
        clear hb
        refine hK.out _ _ h (fun hHeld => ?_)
        clear hK K
        refine allReadyH_oneL (i := 3) (by kernel_rfl) rfl (by rfl) (fun K hK => ?_)
        go_simp
        refine (halves_any B hB _).mono ?_
        rintro _ wn ⟨rfl, hb⟩
        replace q4 := q4.belowS hb
        replace q5 := q5.belowS hb
        replace h := h.below hb
        clear hb
        refine hK.out _ _ h (fun hHeld => ?_)
        clear hK K
        refine allReadyH_oneL (i := 6) (by kernel_rfl) rfl (by rfl) (fun K hK => ?_)
        refine wp_store_R 55 _ _ rfl _ (C .u64 (dig 4294967296 8 A)) rfl rfl q4 (id8 _) (zd8 _) (C_allL _ _) ?_
        intro ws4 p4 hg hz
        replace q5 := q5.grown hg (by simp; omega)
        replace h := h.grown hg hq4
        clear q4 hg hz
        refine hK.out _ _ h (fun hHeld => ?_)
        clear hK K
        refine allReadyH_oneL (i := 7) (by kernel_rfl) rfl (by rfl) (fun K hK => ?_)
        refine wp_store_R 55 _ _ rfl _ (C .u64 (dig 4294967296 8 B)) rfl rfl q5 (id8 _) (zd8 _) (C_allL _ _) ?_
        intro ws5 p5 hg hz
        replace p4 := p4.grown hg (by simp; omega)
        replace h := h.grown hg hq5
        clear q5 hg hz
        refine hK.out _ _ h (fun hHeld => ?_)
        clear hK K
        refine wpAnyH_done (by kernel_rfl) ?_ _
        refine NoPanic.normal ?_
        go_wp2
        go_meet
        case rel => exact ⟨g4, g5, rfl, rfl, p4, p5, by omega, by omega, by omega, h⟩
    · refine wp_alloc_R 55 rfl (C .u64 (Z 8)) z4' ?_
      obtain ⟨g5, hg5, q5, hq5⟩ := new_rowP h
      replace h := h.alloc (.cells (C .u64 (Z 8)).toArray 55)
      rw [hg5]
      clear hg5
      refine hK.out _ _ h (fun hHeld => ?_)
      clear hK K
      refine ready_twoL (i := 1) (j := 4) (by kernel_rfl) rfl rfl (by rfl) (by rfl) (fun K hK => ?_) (fun K hK => ?_)
      · go_simp
        refine (halves_any A hA _).mono ?_
        rintro _ wn ⟨rfl, hb⟩
        replace q5 := q5.belowS hb
        replace h := h.below hb
        clear hb
        refine hK.out _ _ h (fun hHeld => ?_)
        clear hK K
        refine ready_twoL (i := 3) (j := 4) (by kernel_rfl) rfl rfl (by rfl) (by rfl) (fun K hK => ?_) (fun K hK => ?_)
        · go_simp
          refine (halves_any B hB _).mono ?_
          rintro _ wn ⟨rfl, hb⟩
          replace q5 := q5.belowS hb
          replace h := h.below hb
          clear hb
          refine hK.out _ _ h (fun hHeld => ?_)
          clear hK K
          refine allReadyH_oneL (i := 4) (by kernel_rfl) rfl (by rfl) (fun K hK => ?_)
          refine wp_alloc_R 55 rfl (C .u64 (Z 8)) z4' ?_
          have n54 := q5.lt
          obtain ⟨g4, hg4, q4, hq4⟩ := new_rowP h
          rw [hg4] at n54
          replace q5 := q5.alloc (.cells (C .u64 (Z 8)).toArray 55)
          replace h := h.alloc (.cells (C .u64 (Z 8)).toArray 55)
          rw [hg4]
          clear hg4
          refine hK.out _ _ h (fun hHeld => ?_)
          clear hK K
          refine allReadyH_oneL (i := 6) (by kernel_rfl) rfl (by rfl) (fun K hK => ?_)
          refine wp_store_R 55 _ _ rfl _ (C .u64 (dig 4294967296 8 A)) rfl rfl q4 (id8 _) (zd8 _) (C_allL _ _) ?_
          intro ws4 p4 hg hz
          replace q5 := q5.grown hg (by simp; omega)
          replace h := h.grown hg hq4
          clear q4 hg hz
          refine hK.out _ _ h (fun hHeld => ?_)
          clear hK K
          refine allReadyH_oneL (i := 7) (by kernel_rfl) rfl (by rfl) (fun K hK => ?_)
          refine wp_store_R 55 _ _ rfl _ (C .u64 (dig 4294967296 8 B)) rfl rfl q5 (id8 _) (zd8 _) (C_allL _ _) ?_
          intro ws5 p5 hg hz
          replace p4 := p4.grown hg (by simp; omega)
          replace h := h.grown hg hq5
          clear q5 hg hz
          refine hK.out _ _ h (fun hHeld => ?_)
          clear hK K
          refine wpAnyH_done (by kernel_rfl) ?_ _
          refine NoPanic.normal ?_
          go_wp2
          go_meet
          case rel => exact ⟨g4, g5, rfl, rfl, p4, p5, by omega, by omega, by omega, h⟩
        · refine wp_alloc_R 55 rfl (C .u64 (Z 8)) z4' ?_
          have n54 := q5.lt
          obtain ⟨g4, hg4, q4, hq4⟩ := new_rowP h
          rw [hg4] at n54
          replace q5 := q5.alloc (.cells (C .u64 (Z 8)).toArray 55)
          replace h := h.alloc (.cells (C .u64 (Z 8)).toArray 55)
          rw [hg4]
          clear hg4
          refine hK.out _ _ h (fun hHeld => ?_)
          clear hK K
          refine allReadyH_oneL (i := 3) (by kernel_rfl) rfl (by rfl) (fun K hK => ?_)
          go_simp
          refine (halves_any B hB _).mono ?_
          rintro _ wn ⟨rfl, hb⟩
          replace q5 := q5.belowS hb
          replace q4 := q4.belowS hb
          replace h := h.below hb
          clear hb
          refine hK.out _ _ h (fun hHeld => ?_)
          clear hK K
          refine allReadyH_oneL (i := 6) (by kernel_rfl) rfl (by rfl) (fun K hK => ?_)
          refine wp_store_R 55 _ _ rfl _ (C .u64 (dig 4294967296 8 A)) rfl rfl q4 (id8 _) (zd8 _) (C_allL _ _) ?_
          intro ws4 p4 hg hz
          replace q5 := q5.grown hg (by simp; omega)
          replace h := h.grown hg hq4
          clear q4 hg hz
          refine hK.out _ _ h (fun hHeld => ?_)
          clear hK K
          refine allReadyH_oneL (i := 7) (by kernel_rfl) rfl (by rfl) (fun K hK => ?_)
          refine wp_store_R 55 _ _ rfl _ (C .u64 (dig 4294967296 8 B)) rfl rfl q5 (id8 _) (zd8 _) (C_allL _ _) ?_
          intro ws5 p5 hg hz
          replace p4 := p4.grown hg (by simp; omega)
          replace h := h.grown hg hq5
          clear q5 hg hz
          refine hK.out _ _ h (fun hHeld => ?_)
          clear hK K
          refine wpAnyH_done (by kernel_rfl) ?_ _
          refine NoPanic.normal ?_
          go_wp2
          go_meet
          case rel => exact ⟨g4, g5, rfl, rfl, p4, p5, by omega, by omega, by omega, h⟩
      · refine wp_alloc_R 55 rfl (C .u64 (Z 8)) z4' ?_
        have n54 := q5.lt
        obtain ⟨g4, hg4, q4, hq4⟩ := new_rowP h
        rw [hg4] at n54
        replace q5 := q5.alloc (.cells (C .u64 (Z 8)).toArray 55)
        replace h := h.alloc (.cells (C .u64 (Z 8)).toArray 55)
        rw [hg4]
        clear hg4
        refine hK.out _ _ h (fun hHeld => ?_)
        clear hK K
        refine allReadyH_oneL (i := 1) (by kernel_rfl) rfl (by rfl) (fun K hK => ?_)
        go_simp
        refine (halves_any A hA _).mono ?_
        rintro _ wn ⟨rfl, hb⟩
        replace q5 := q5.belowS hb
        replace q4 := q4.belowS hb
        replace h := h.below hb
        clear hb
        refine hK.out _ _ h (fun hHeld => ?_)
        clear hK K
        refine allReadyH_oneL (i := 3) (by kernel_rfl) rfl (by rfl) (fun K hK => ?_)
        go_simp
        refine (halves_any B hB _).mono ?_
        rintro _ wn ⟨rfl, hb⟩
        replace q5 := q5.belowS hb
        replace q4 := q4.belowS hb
        replace h := h.below hb
        clear hb
        refine hK.out _ _ h (fun hHeld => ?_)
        clear hK K
        refine allReadyH_oneL (i := 6) (by kernel_rfl) rfl (by rfl) (fun K hK => ?_)
        refine wp_store_R 55 _ _ rfl _ (C .u64 (dig 4294967296 8 A)) rfl rfl q4 (id8 _) (zd8 _) (C_allL _ _) ?_
        intro ws4 p4 hg hz
        replace q5 := q5.grown hg (by simp; omega)
        replace h := h.grown hg hq4
        clear q4 hg hz
        refine hK.out _ _ h (fun hHeld => ?_)
        clear hK K
        refine allReadyH_oneL (i := 7) (by kernel_rfl) rfl (by rfl) (fun K hK => ?_)
        refine wp_store_R 55 _ _ rfl _ (C .u64 (dig 4294967296 8 B)) rfl rfl q5 (id8 _) (zd8 _) (C_allL _ _) ?_
        intro ws5 p5 hg hz
        replace p4 := p4.grown hg (by simp; omega)
        replace h := h.grown hg hq5
        clear q5 hg hz
        refine hK.out _ _ h (fun hHeld => ?_)
        clear hK K
        refine wpAnyH_done (by kernel_rfl) ?_ _
        refine NoPanic.normal ?_
        go_wp2
        go_meet
        case rel => exact ⟨g4, g5, rfl, rfl, p4, p5, by omega, by omega, by omega, h⟩
  case rest =>
    clear h
    obtain ⟨g4, g5, rfl, rfl, p4, p5, hne, hg4, hg5, h⟩ := hcut
    have lx := dig_length 4294967296 8 A
    have ly := dig_length 4294967296 8 B
    have hx := dig_lo (B := 4294967296) (by decide) 8 A
    have hy := dig_lo (B := 4294967296) (by decide) 8 B
    have HE : Away (val 4294967296 (dig 4294967296 8 A) * val 4294967296 (dig 4294967296 8 B) = A * B) := ⟨by rw [dig_val (by decide) (by rw [B32_pow]; exact hA), dig_val (by decide) (by rw [B32_pow]; exact hB)]⟩
    generalize dig 4294967296 8 A = xs at *
    generalize dig 4294967296 8 B = ys at *
    have hq := h.lt
    have r7 := Row.new wc 57 (C .u64 (Z 16))
    have k4 := p4.lt
    have k5 := p5.lt
    replace p4 := p4.alloc (.cells (C .u64 (Z 16)).toArray 57)
    replace p5 := p5.alloc (.cells (C .u64 (Z 16)).toArray 57)
    replace h := h.alloc (.cells (C .u64 (Z 16)).toArray 57)
    generalize hg7 : wc.heap.size = g7 at *
    go_upto_region 3 with (first | refine wpList_alloc_row rfl 57 rfl _ z16 ?_ | refine wpList_build_Z rfl 57 rfl _ b16 ?_ | (refine wpList_store_R rfl 57 _ _ rfl _ (C .u64 (Z 16)) (by rw [← hg7]; rfl) rfl r7 i16 rfl (C_allL _ _) ?_; intro w5 q7 hg hz))
    replace p4 := p4.grown hg (by simp; omega)
    replace p5 := p5.grown hg (by simp; omega)
    replace h := h.grown hg hq
    clear r7 hg hz
    go_wp2
    try rw [hg7]
    clear hg7
    go_loopw [8] (fun i wr => ∃ (k : Nat) (l : List Nat), k ≤ 8 ∧ i = .int .i64 k ∧ Away (Pout 4294967296 8 xs ys l k) ∧ Row wr g4 55 (C .u64 xs) ∧ Row wr g5 55 (C .u64 ys) ∧ Row wr g7 57 (C .u64 l) ∧ HP w.heap.size w wr (C .u64 (wds A)) (C .u64 (wds B)) (C .u64 (Z 16))) (fun i _ => 8 - (intOf i).toNat)
    case atStart => exact ⟨0, Z 16, Nat.zero_le _, rfl, ⟨Pout.begin (by decide) xs ys⟩, p4, p5, q7, h⟩
    case round =>
      clear p4 p5 q7 h
      obtain ⟨k, l, hk, rfl, ho, p4, p5, q7, h⟩ := hrel
      by_cases hlt : k < 8
      · have c4 := p4.cell k
        rw [C_get .u64 (by omega)] at c4
        have bx := hx.getD (by decide) k
        have hki : (k : Int) < 8 := by omega
        have HP' := Away.mk (ho.out.inner (by decide))
        obtain ⟨x, hxe⟩ : ∃ x, xs.getD k 0 = x := ⟨_, rfl⟩
        rw [hxe] at bx
        have HX := Away.mk hxe
        clear hxe ho c4
        go_wp2
        go_loopw [9, 10] (fun cv i wr => ∃ (j c : Nat) (l : List Nat), j ≤ 8 ∧ i = .int .i64 j ∧ cv = .int .u64 (c : Int) ∧ Away (Pin 4294967296 8 xs ys l k j c) ∧ Row wr g4 55 (C .u64 xs) ∧ Row wr g5 55 (C .u64 ys) ∧ Row wr g7 57 (C .u64 l) ∧ HP w.heap.size w wr (C .u64 (wds A)) (C .u64 (wds B)) (C .u64 (Z 16))) (fun _ i _ => 8 - (intOf i).toNat)
        case atStart => exact ⟨0, 0, l, Nat.zero_le _, rfl, rfl, HP', p4, p5, q7, h⟩
        case round =>
          clear p4 p5 q7 h HP' l
          obtain ⟨j, c, l, hj, rfl, rfl, HP', p4, p5, q7, h⟩ := hrel
          have hc := HP'.out.small
          have hlen := HP'.out.len
          by_cases hlt2 : j < 8
          · have c4 := p4.cell k
            rw [C_get .u64 (by omega), HX.out] at c4
            have c5 := p5.cell j
            rw [C_get .u64 (by omega)] at c5
            have by' := hy.getD (by decide) j
            have bl := HP'.out.lo.getD (by decide) (k + j)
            have HN := Away.mk (HP'.out.step (by decide) hx hy hlt2 hlt)
            rw [HX.out] at HN
            have c7 := q7.cell (k + j)
            rw [C_get .u64 (by omega)] at c7
            have hf := q7.frozen (k + j)
            clear HP'
            generalize ys.getD j 0 = y at *
            generalize l.getD (k + j) 0 = v at *
            have hji : (j : Int) < 8 := by omega
            obtain ⟨n, hn⟩ : ∃ n, k + j = n := ⟨_, rfl⟩
            rw [hn] at HN c7 hf
            have en : (k : Int) + (j : Int) = (n : Int) := by omega
            have wn : IntKind.i64.wrap (n : Int) = (n : Int) := by rw [IntWalk.i64_in _ ⟨by omega, by omega⟩]
            have bn : (n : Int) < 16 := by omega
            have hp : x * y ≤ 18446744065119617025 := Nat.le_trans (Nat.mul_le_mul (Nat.le_pred_of_lt bx) (Nat.le_pred_of_lt by')) (by decide)
            have cp : (x : Int) * (y : Int) = ((x * y : Nat) : Int) := by simp
            generalize x * y = p at *
            obtain ⟨s1, hs1⟩ : ∃ s1, c + v = s1 := ⟨_, rfl⟩
            obtain ⟨t, ht⟩ : ∃ t, p + v + c = t := ⟨_, rfl⟩
            have e1 : IntKind.u64.wrap ((c : Int) + (v : Int)) = (s1 : Int) := by rw [IntKind.wrap_u64]; omega
            have e2 : IntKind.u64.wrap ((x : Int) * (y : Int)) = (p : Int) := by rw [cp, IntKind.wrap_u64]; omega
            have e3 : IntKind.u64.wrap ((s1 : Int) + (p : Int)) = (t : Int) := by rw [IntKind.wrap_u64]; omega
            rw [ht] at HN
            have htl : t < 18446744073709551616 := by omega
            obtain ⟨z, hz⟩ : ∃ z, t % 4294967296 = z := ⟨_, rfl⟩
            obtain ⟨d, hd⟩ : ∃ d, t / 4294967296 = d := ⟨_, rfl⟩
            rw [hz, hd] at HN
            have e4 : bits .and .u64 (t : Int) 4294967295 = (z : Int) := by
              have := u64_and_nat t 4294967295 htl (by decide)
              rw [show ((4294967295 : Nat) : Int) = 4294967295 from rfl] at this
              rw [this, show (4294967295 : Nat) = 2 ^ 32 - 1 from rfl, Nat.and_two_pow_sub_one_eq_mod, ← hz]
            have e5 : (t : Int) / 4294967296 = (d : Int) := by omega
            clear hn hp cp hs1 ht htl hz hd bx by' bl hc
            go_wp2
            go_quiet (fail)
            obtain ⟨wn', hwn, p4, p5, q7, h, c7, hf⟩ : ∃ wn' : World, wr.drewN nq = wn' ∧ Row wn' g4 55 (C .u64 xs) ∧ Row wn' g5 55 (C .u64 ys) ∧ Row wn' g7 57 (C .u64 l) ∧ HP w.heap.size w wn' (C .u64 (wds A)) (C .u64 (wds B)) (C .u64 (Z 16)) ∧ wn'.cell? ⟨g7, n, none⟩ = some (.int .u64 (v : Int)) ∧ wn'.frozen? ⟨g7, n, none⟩ = false := ⟨_, rfl, p4, p5, q7, h.drewN nq, c7, hf⟩
            rw [hwn]
            clear hwn
            have m4 := p4.other (i := n) (.int .u64 (z : Int)) (show g4 ≠ g7 by omega)
            have m5 := p5.other (i := n) (.int .u64 (z : Int)) (show g5 ≠ g7 by omega)
            have m7 := row_set q7 n z
            have mh := h.cell (k := g7) (i := n) (.int .u64 (z : Int)) hq
            clear p4 p5 q7 h
            go_wp2
            go_roundw
            case rel => exact ⟨j + 1, d, _, by omega, by go_num, rfl, HN, m4, m5, m7, mh⟩
            case measure => simp [intOf]; omega
          · obtain rfl : j = 8 := by omega
            have HN := Away.mk (HP'.out.out ly hlt)
            have hf := q7.frozen (k + 8)
            have c7 := q7.cell (k + 8)
            rw [C_get .u64 (by omega)] at c7
            generalize l.getD (k + 8) 0 = v at *
            obtain ⟨n, hn⟩ : ∃ n, k + 8 = n := ⟨_, rfl⟩
            rw [hn] at HN c7 hf
            have en : (k : Int) + 8 = (n : Int) := by omega
            have wn : IntKind.i64.wrap (n : Int) = (n : Int) := by rw [IntWalk.i64_in _ ⟨by omega, by omega⟩]
            have bn : (n : Int) < 16 := by omega
            have m4 := p4.other (i := n) (.int .u64 (c : Int)) (show g4 ≠ g7 by omega)
            have m5 := p5.other (i := n) (.int .u64 (c : Int)) (show g5 ≠ g7 by omega)
            have m7 := row_set q7 n c
            have mh := h.cell (k := g7) (i := n) (.int .u64 (c : Int)) hq
            clear hn HP' p4 p5 q7 h
            go_wp2
            go_roundw
            case rel => exact ⟨k + 1, _, by omega, by go_num, HN, m4, m5, m7, mh⟩
            case measure => simp [intOf]; omega
      · have HK : Away (k = 8) := ⟨by omega⟩
        have dk : decide ((k : Int) < 8) = false := decide_eq_false (by omega)
        rw [HK.out] at ho
        have hi := ho.out.len
        have HL := ho.out.lo
        have HA := Away.mk (ho.out.all lx)
        have HLn := Away.mk hi
        rw [← C_length .u64 l] at hi
        have hi16 : (Tryd.prog.info? 57).map (·.size) = some (C .u64 l).length := by rw [hi]; exact i16
        clear hlt hk ho
        go_wp2_with (first | refine wpList_load_row rfl 57 _ rfl _ rfl _ _ _ _ q7 Tryd.underlying57 rfl hi16 ?_ | (refine wpList_store_R rfl 57 _ _ rfl _ (C .u64 l) rfl rfl h.r3 hi16 (by rw [hi]; rfl) (C_allL _ _) ?_; intro w7 q8 hg8 hz8))
        exact result_row Tryd.results46 rfl q8 Tryd.underlying57 rfl hi16 rfl ⟨⟨l, rfl, HLn.out, HL, by rw [HA.out, HE.out]⟩, below_grown h.bel hg8 (by omega) h.r3.lt⟩
end Go.Proofs.YtgakpgcjninbgaaDoor.F
