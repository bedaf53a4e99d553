/-
  Contracts of sums, differences, products, powers and inverses modulo the prime, over this seat's translation. Conditions: each as it says; the package's variables hold what their initialisers lay.
-/
import Derived.Test.YtgakpgcjninbgaaDoorFldD
namespace Go.Proofs.YtgakpgcjninbgaaDoor.F
open Go.RowKit
set_option linter.unusedVariables false
set_option maxRecDepth 10000

/-- What a call with two arguments and an answer holds. -/
structure H2 (g : Nat) (w0 w : World) (us vs xs : List Value) : Prop where
  r1 : Row w g 24 us
  r2 : Row w (g + 1) 24 vs
  r3 : Row w (g + 1 + 1) 24 xs
  bel : Below g w0 w
  lt : g + 1 + 1 < w.heap.size
section
variable {g : Nat} {w0 w w' : World} {us vs xs : List Value}
theorem H2.begin (w : World) (us vs xs : List Value) : ∃ w4 : World, ((w.alloc (.cells us.toArray 24)).alloc (.cells vs.toArray 24)).alloc (.cells xs.toArray 24) = w4 ∧ H2 w.heap.size w w4 us vs xs := by
  obtain ⟨w4, h4, r1, r2, r3, hL, hS⟩ := rows3 w 24 24 24 us vs xs
  exact ⟨w4, h4, r1, r2, r3, hL, by omega⟩
theorem H2.below (h : H2 g w0 w us vs xs) (hb : Below w.heap.size w w') : H2 g w0 w' us vs xs :=
  ⟨h.r1.belowS hb, h.r2.belowS hb, h.r3.belowS hb, h.bel.trans (hb.mono (by have := h.lt; omega)), by have := h.lt; have := hb.size; omega⟩
theorem H2.drew (h : H2 g w0 w us vs xs) : H2 g w0 w.drew us vs xs := ⟨h.r1, h.r2, h.r3, below_drawn h.bel, h.lt⟩
theorem H2.alloc (h : H2 g w0 w us vs xs) (o : Obj) : H2 g w0 (w.alloc o) us vs xs :=
  ⟨h.r1.alloc o, h.r2.alloc o, h.r3.alloc o, h.bel.alloc (by have := h.lt; omega) o, by have := h.lt; rw [alloc_size]; omega⟩
theorem H2.grown (h : H2 g w0 w us vs xs) {k : Nat} (hg : w.grownBy w' (some k)) (hk : g + 1 + 1 < k) : H2 g w0 w' us vs xs :=
  ⟨h.r1.grown hg (by simp; omega), h.r2.grown hg (by simp; omega), h.r3.grown hg (by simp; omega), h.bel.grown hg (by have := h.lt; omega) (fun k' hk' => by simp only [Option.some.injEq] at hk'; omega), by have := h.lt; have := hg.size; omega⟩
theorem H2.tab (h : H2 w0.heap.size w0 w us vs xs) {g n : Nat} (hT : Glob w0 g n) : Glob w g n := hT.below h.bel
end
/-- What a call with one argument and an answer holds. -/
structure H1 (g : Nat) (w0 w : World) (us xs : List Value) : Prop where
  r1 : Row w g 24 us
  r3 : Row w (g + 1) 24 xs
  bel : Below g w0 w
  lt : g + 1 < w.heap.size
section
variable {g : Nat} {w0 w w' : World} {us xs : List Value}
theorem H1.begin (w : World) (us xs : List Value) : ∃ w4 : World, (w.alloc (.cells us.toArray 24)).alloc (.cells xs.toArray 24) = w4 ∧ H1 w.heap.size w w4 us xs := by
  obtain ⟨w4, h4, r1, r3, hL, hS⟩ := rows2 w 24 24 us xs
  exact ⟨w4, h4, r1, r3, hL, by omega⟩
theorem H1.below (h : H1 g w0 w us xs) (hb : Below w.heap.size w w') : H1 g w0 w' us xs :=
  ⟨h.r1.belowS hb, h.r3.belowS hb, h.bel.trans (hb.mono (by have := h.lt; omega)), by have := h.lt; have := hb.size; omega⟩
theorem H1.drew (h : H1 g w0 w us xs) : H1 g w0 w.drew us xs := ⟨h.r1, h.r3, below_drawn h.bel, h.lt⟩
theorem H1.alloc (h : H1 g w0 w us xs) (o : Obj) : H1 g w0 (w.alloc o) us xs :=
  ⟨h.r1.alloc o, h.r3.alloc o, h.bel.alloc (by have := h.lt; omega) o, by have := h.lt; rw [alloc_size]; omega⟩
theorem H1.grown (h : H1 g w0 w us xs) {k : Nat} (hg : w.grownBy w' (some k)) (hk : g + 1 < k) : H1 g w0 w' us xs :=
  ⟨h.r1.grown hg (by simp; omega), h.r3.grown hg (by simp; omega), h.bel.grown hg (by have := h.lt; omega) (fun k' hk' => by simp only [Option.some.injEq] at hk'; omega), by have := h.lt; have := hg.size; omega⟩
theorem H1.tab (h : H1 w0.heap.size w0 w us xs) {g n : Nat} (hT : Glob w0 g n) : Glob w g n := hT.below h.bel
end

theorem new_row {g : Nat} {w0 w : World} {us vs xs : List Value} (h : H2 g w0 w us vs xs) : ∃ g3 : Nat, w.heap.size = g3 ∧ Row (w.alloc (.cells (C .u64 (Z 4)).toArray 24)) g3 24 (C .u64 (Z 4)) ∧ (g + 1 + 1 < g3 ∧ g3 < (w.alloc (.cells (C .u64 (Z 4)).toArray 24)).heap.size) :=
  ⟨_, rfl, Row.new w _ _, h.lt, by rw [alloc_size]; omega⟩

set_option maxHeartbeats 4000000 in
theorem fadd_any (A B : Nat) (hA : A < 115792089237316195423570985008687907853269984665640564039457584007913129639936) (hB : B < 115792089237316195423570985008687907853269984665640564039457584007913129639936) (w : World) (hT : Tab w) : Calls Tryd.prog 13 #[el A, el B] w fun e w' => e = .returned (el ((A + B) % P)) ∧ Below w.heap.size w w' := by
  obtain ⟨w4, h4, h⟩ := H2.begin w (C .u64 (wds A)) (C .u64 (wds B)) (C .u64 (Z 4))
  have lA := mod_lt_T A
  have lB := mod_lt_T B
  obtain ⟨M, hM⟩ : ∃ M, (A % P + B % P) % 115792089237316195423570985008687907853269984665640564039457584007913129639936 = M := ⟨_, rfl⟩
  have lM : M < 115792089237316195423570985008687907853269984665640564039457584007913129639936 := by rw [← hM]; exact Nat.mod_lt _ (by decide)
  have HM : Away (M % P = (A + B) % P) := ⟨by rw [← hM, Nat.mod_eq_of_lt (by have := mod_lt_P A; have := mod_lt_P B; have := T_P; omega : A % P + B % P < 115792089237316195423570985008687907853269984665640564039457584007913129639936), ← Nat.add_mod]⟩
  unfold el
  go_enter Tryd.func13, Tryd.ntmps13
  go_upto_region 1 with (refine wpList_alloc_row rfl 24 rfl _ z4 ?_)
  simp only [Act.put, List.setIfInBounds_toArray, List.set_cons_zero, List.set_cons_succ, alloc_size, h4]
  clear h4
  replace h := h.drew
  go_cut [5, 6] (fun v5 v6 wc => ∃ g3, v5 = .pointer (some ⟨g3, 0, none⟩) ∧ True ∧ Row wc g3 24 (C .u64 (wds M)) ∧ w.heap.size + 1 + 1 < g3 ∧ H2 w.heap.size w wc (C .u64 (wds A)) (C .u64 (wds B)) (C .u64 (Z 4)))
  case first =>
    refine wp_region_noPanic ?_
    refine wp_region_held_drew (S := fun w' => H2 w.heap.size w w' (C .u64 (wds A)) (C .u64 (wds B)) (C .u64 (Z 4))) (by kernel_rfl) h (fun hHeld => ?_)
    refine wpAnyH_takeL (i := 0) (v := (.agg (C .u64 (wds A)).toArray)) rfl (by kernel_rfl) (by kernel_rfl) (by kernel_rfl) (fun _ _ _ h => h) (by rfl) ?h0 (by assumption) ?_
    case h0 => intro w hSw; exact exec_load_R 24 _ rfl rfl hSw.r1 Tryd.underlying24 (ie4 A)
    simp only [Act.put, List.setIfInBounds_toArray, List.set_cons_zero, List.set_cons_succ]
    refine wpAnyH_takeL (i := 2) (v := (.agg (C .u64 (wds B)).toArray)) rfl (by kernel_rfl) (by kernel_rfl) (by kernel_rfl) (fun _ _ _ h => h) (by rfl) ?h2 (by assumption) ?_
    case h2 => intro w hSw; exact exec_load_R 24 _ rfl rfl hSw.r2 Tryd.underlying24 (ie4 B)
    simp only [Act.put, List.setIfInBounds_toArray, List.set_cons_zero, List.set_cons_succ]
    refine ready_twoL (i := 1) (j := 8) (by kernel_rfl) rfl rfl (by rfl) (by rfl) (fun K hK => ?_) (fun K hK => ?_)
    · go_simp
      refine (reduce_any A hA _ (h.tab hT)).mono ?_
      rintro _ wn ⟨rfl, hb⟩
      replace h := h.below hb
      clear hb
      refine hK.out _ _ h (fun hHeld => ?_)
      clear hK K
      refine ready_twoL (i := 3) (j := 8) (by kernel_rfl) rfl rfl (by rfl) (by rfl) (fun K hK => ?_) (fun K hK => ?_)
      · go_simp
        refine (reduce_any B hB _ (h.tab hT)).mono ?_
        rintro _ wn ⟨rfl, hb⟩
        replace h := h.below hb
        clear hb
        refine hK.out _ _ h (fun hHeld => ?_)
        clear hK K
        refine ready_twoL (i := 4) (j := 8) (by kernel_rfl) rfl rfl (by rfl) (by rfl) (fun K hK => ?_) (fun K hK => ?_)
        · go_simp
          refine (plus_any (A % P) (B % P) lA lB _).mono ?_
          rintro _ wn ⟨rfl, hb⟩
          replace h := h.below hb
          clear hb
          rw [hM]
          refine hK.out _ _ h (fun hHeld => ?_)
          clear hK K
          refine wpAnyH_takeL (i := 5) (v := ?v5) rfl (by kernel_rfl) (by kernel_rfl) (by kernel_rfl) (fun _ _ _ h => h) (by rfl) ?h5 (by assumption) ?_
          case h5 => intro w hSw; go_simp <;> with_reducible rfl
          simp only [Act.put, List.setIfInBounds_toArray, List.set_cons_zero, List.set_cons_succ]
          refine wpAnyH_takeL (i := 6) (v := ?v6) rfl (by kernel_rfl) (by kernel_rfl) (by kernel_rfl) (fun _ _ _ h => h) (by rfl) ?h6 (by assumption) ?_
          case h6 => intro w hSw; go_simp <;> with_reducible rfl
          simp only [Act.put, List.setIfInBounds_toArray, List.set_cons_zero, List.set_cons_succ]
          refine wpAnyH_takeL (i := 7) (v := ?v7) rfl (by kernel_rfl) (by kernel_rfl) (by kernel_rfl) (fun _ _ _ h => h) (by rfl) ?h7 (by assumption) ?_
          case h7 => intro w hSw; go_simp <;> with_reducible rfl
          simp only [Act.put, List.setIfInBounds_toArray, List.set_cons_zero, List.set_cons_succ]
          refine allReadyH_oneL (i := 8) (by kernel_rfl) rfl (by rfl) (fun K hK => ?_)
          refine wp_alloc_R 24 rfl (C .u64 (Z 4)) z4 ?_
          obtain ⟨g3, hg3, q, hq⟩ := new_row h
          replace h := h.alloc (.cells (C .u64 (Z 4)).toArray 24)
          rw [hg3]
          clear hg3
          refine hK.out _ _ h (fun hHeld => ?_)
          clear hK K
          refine allReadyH_oneL (i := 9) (by kernel_rfl) rfl (by rfl) (fun K hK => ?_)
          refine wp_store_R 24 _ _ rfl _ (C .u64 (wds M)) rfl rfl q (ie4 M) (ze4 M) (C_allL _ _) ?_
          intro wn q5 hg5 hz5
          replace h := h.grown hg5 hq.1
          have hq1 := hq.1
          clear q hg5 hz5 hq
          refine hK.out _ _ h (fun hHeld => ?_)
          clear hK K
          refine wpAnyH_takeL (i := 10) (v := ?v10) rfl (by kernel_rfl) (by kernel_rfl) (by kernel_rfl) (fun _ _ _ h => h) (by rfl) ?h10 (by assumption) ?_
          case h10 => intro w hSw; go_simp <;> with_reducible rfl
          simp only [Act.put, List.setIfInBounds_toArray, List.set_cons_zero, List.set_cons_succ]
          refine wpAnyH_done (by kernel_rfl) ?_ _
          refine NoPanic.normal ?_
          go_wp2
          go_meet
          case rel => exact ⟨g3, rfl, trivial, q5, hq1, h⟩
        · refine wp_alloc_R 24 rfl (C .u64 (Z 4)) z4 ?_
          obtain ⟨g3, hg3, q, hq⟩ := new_row h
          replace h := h.alloc (.cells (C .u64 (Z 4)).toArray 24)
          rw [hg3]
          clear hg3
          refine hK.out _ _ h (fun hHeld => ?_)
          clear hK K
          refine allReadyH_oneL (i := 4) (by kernel_rfl) rfl (by rfl) (fun K hK => ?_)
          go_simp
          refine (plus_any (A % P) (B % P) lA lB _).mono ?_
          rintro _ wn ⟨rfl, hb⟩
          replace q := q.belowS hb
          replace hq : w.heap.size + 1 + 1 < g3 ∧ g3 < wn.heap.size := ⟨hq.1, Nat.lt_of_lt_of_le hq.2 hb.size⟩
          replace h := h.below hb
          clear hb
          rw [hM]
          refine hK.out _ _ h (fun hHeld => ?_)
          clear hK K
          refine wpAnyH_takeL (i := 5) (v := ?v5) rfl (by kernel_rfl) (by kernel_rfl) (by kernel_rfl) (fun _ _ _ h => h) (by rfl) ?h5 (by assumption) ?_
          case h5 => intro w hSw; go_simp <;> with_reducible rfl
          simp only [Act.put, List.setIfInBounds_toArray, List.set_cons_zero, List.set_cons_succ]
          refine wpAnyH_takeL (i := 6) (v := ?v6) rfl (by kernel_rfl) (by kernel_rfl) (by kernel_rfl) (fun _ _ _ h => h) (by rfl) ?h6 (by assumption) ?_
          case h6 => intro w hSw; go_simp <;> with_reducible rfl
          simp only [Act.put, List.setIfInBounds_toArray, List.set_cons_zero, List.set_cons_succ]
          refine wpAnyH_takeL (i := 7) (v := ?v7) rfl (by kernel_rfl) (by kernel_rfl) (by kernel_rfl) (fun _ _ _ h => h) (by rfl) ?h7 (by assumption) ?_
          case h7 => intro w hSw; go_simp <;> with_reducible rfl
          simp only [Act.put, List.setIfInBounds_toArray, List.set_cons_zero, List.set_cons_succ]
          refine allReadyH_oneL (i := 9) (by kernel_rfl) rfl (by rfl) (fun K hK => ?_)
          refine wp_store_R 24 _ _ rfl _ (C .u64 (wds M)) rfl rfl q (ie4 M) (ze4 M) (C_allL _ _) ?_
          intro wn q5 hg5 hz5
          replace h := h.grown hg5 hq.1
          have hq1 := hq.1
          clear q hg5 hz5 hq
          refine hK.out _ _ h (fun hHeld => ?_)
          clear hK K
          refine wpAnyH_takeL (i := 10) (v := ?v10) rfl (by kernel_rfl) (by kernel_rfl) (by kernel_rfl) (fun _ _ _ h => h) (by rfl) ?h10 (by assumption) ?_
          case h10 => intro w hSw; go_simp <;> with_reducible rfl
          simp only [Act.put, List.setIfInBounds_toArray, List.set_cons_zero, List.set_cons_succ]
          refine wpAnyH_done (by kernel_rfl) ?_ _
          refine NoPanic.normal ?_
          go_wp2
          go_meet
          case rel => exact ⟨g3, rfl, trivial, q5, hq1, h⟩
      · refine wp_alloc_R 24 rfl (C .u64 (Z 4)) z4 ?_
        obtain ⟨g3, hg3, q, hq⟩ := new_row h
        replace h := h.alloc (.cells (C .u64 (Z 4)).toArray 24)
        rw [hg3]
        clear hg3
        refine hK.out _ _ h (fun hHeld => ?_)
        clear hK K
        refine allReadyH_oneL (i := 3) (by kernel_rfl) rfl (by rfl) (fun K hK => ?_)
        go_simp
        refine (reduce_any B hB _ (h.tab hT)).mono ?_
        rintro _ wn ⟨rfl, hb⟩
        replace q := q.belowS hb
        replace hq : w.heap.size + 1 + 1 < g3 ∧ g3 < wn.heap.size := ⟨hq.1, Nat.lt_of_lt_of_le hq.2 hb.size⟩
        replace h := h.below hb
        clear hb
        refine hK.out _ _ h (fun hHeld => ?_)
        clear hK K
        refine allReadyH_oneL (i := 4) (by kernel_rfl) rfl (by rfl) (fun K hK => ?_)
        go_simp
        refine (plus_any (A % P) (B % P) lA lB _).mono ?_
        rintro _ wn ⟨rfl, hb⟩
        replace q := q.belowS hb
        replace hq : w.heap.size + 1 + 1 < g3 ∧ g3 < wn.heap.size := ⟨hq.1, Nat.lt_of_lt_of_le hq.2 hb.size⟩
        replace h := h.below hb
        clear hb
        rw [hM]
        refine hK.out _ _ h (fun hHeld => ?_)
        clear hK K
        refine wpAnyH_takeL (i := 5) (v := ?v5) rfl (by kernel_rfl) (by kernel_rfl) (by kernel_rfl) (fun _ _ _ h => h) (by rfl) ?h5 (by assumption) ?_
        case h5 => intro w hSw; go_simp <;> with_reducible rfl
        simp only [Act.put, List.setIfInBounds_toArray, List.set_cons_zero, List.set_cons_succ]
        refine wpAnyH_takeL (i := 6) (v := ?v6) rfl (by kernel_rfl) (by kernel_rfl) (by kernel_rfl) (fun _ _ _ h => h) (by rfl) ?h6 (by assumption) ?_
        case h6 => intro w hSw; go_simp <;> with_reducible rfl
        simp only [Act.put, List.setIfInBounds_toArray, List.set_cons_zero, List.set_cons_succ]
        refine wpAnyH_takeL (i := 7) (v := ?v7) rfl (by kernel_rfl) (by kernel_rfl) (by kernel_rfl) (fun _ _ _ h => h) (by rfl) ?h7 (by assumption) ?_
        case h7 => intro w hSw; go_simp <;> with_reducible rfl
        simp only [Act.put, List.setIfInBounds_toArray, List.set_cons_zero, List.set_cons_succ]
        refine allReadyH_oneL (i := 9) (by kernel_rfl) rfl (by rfl) (fun K hK => ?_)
        refine wp_store_R 24 _ _ rfl _ (C .u64 (wds M)) rfl rfl q (ie4 M) (ze4 M) (C_allL _ _) ?_
        intro wn q5 hg5 hz5
        replace h := h.grown hg5 hq.1
        have hq1 := hq.1
        clear q hg5 hz5 hq
        refine hK.out _ _ h (fun hHeld => ?_)
        clear hK K
        refine wpAnyH_takeL (i := 10) (v := ?v10) rfl (by kernel_rfl) (by kernel_rfl) (by kernel_rfl) (fun _ _ _ h => h) (by rfl) ?h10 (by assumption) ?_
        case h10 => intro w hSw; go_simp <;> with_reducible rfl
        simp only [Act.put, List.setIfInBounds_toArray, List.set_cons_zero, List.set_cons_succ]
        refine wpAnyH_done (by kernel_rfl) ?_ _
        refine NoPanic.normal ?_
        go_wp2
        go_meet
        case rel => exact ⟨g3, rfl, trivial, q5, hq1, h⟩
    · refine wp_alloc_R 24 rfl (C .u64 (Z 4)) z4 ?_
      obtain ⟨g3, hg3, q, hq⟩ := new_row h
      replace h := h.alloc (.cells (C .u64 (Z 4)).toArray 24)
      rw [hg3]
      clear hg3
      refine hK.out _ _ h (fun hHeld => ?_)
      clear hK K
      refine allReadyH_oneL (i := 1) (by kernel_rfl) rfl (by rfl) (fun K hK => ?_)
      go_simp
      refine (reduce_any A hA _ (h.tab hT)).mono ?_
      rintro _ wn ⟨rfl, hb⟩
      replace q := q.belowS hb
      replace hq : w.heap.size + 1 + 1 < g3 ∧ g3 < wn.heap.size := ⟨hq.1, Nat.lt_of_lt_of_le hq.2 hb.size⟩
      replace h := h.below hb
      clear hb
      refine hK.out _ _ h (fun hHeld => ?_)
      clear hK K
      refine allReadyH_oneL (i := 3) (by kernel_rfl) rfl (by rfl) (fun K hK => ?_)
      go_simp
      refine (reduce_any B hB _ (h.tab hT)).mono ?_
      rintro _ wn ⟨rfl, hb⟩
      replace q := q.belowS hb
      replace hq : w.heap.size + 1 + 1 < g3 ∧ g3 < wn.heap.size := ⟨hq.1, Nat.lt_of_lt_of_le hq.2 hb.size⟩
      replace h := h.below hb
      clear hb
      refine hK.out _ _ h (fun hHeld => ?_)
      clear hK K
      refine allReadyH_oneL (i := 4) (by kernel_rfl) rfl (by rfl) (fun K hK => ?_)
      go_simp
      refine (plus_any (A % P) (B % P) lA lB _).mono ?_
      rintro _ wn ⟨rfl, hb⟩
      replace q := q.belowS hb
      replace hq : w.heap.size + 1 + 1 < g3 ∧ g3 < wn.heap.size := ⟨hq.1, Nat.lt_of_lt_of_le hq.2 hb.size⟩
      replace h := h.below hb
      clear hb
      rw [hM]
      refine hK.out _ _ h (fun hHeld => ?_)
      clear hK K
      refine wpAnyH_takeL (i := 5) (v := ?v5) rfl (by kernel_rfl) (by kernel_rfl) (by kernel_rfl) (fun _ _ _ h => h) (by rfl) ?h5 (by assumption) ?_
      case h5 => intro w hSw; go_simp <;> with_reducible rfl
      simp only [Act.put, List.setIfInBounds_toArray, List.set_cons_zero, List.set_cons_succ]
      refine wpAnyH_takeL (i := 6) (v := ?v6) rfl (by kernel_rfl) (by kernel_rfl) (by kernel_rfl) (fun _ _ _ h => h) (by rfl) ?h6 (by assumption) ?_
      case h6 => intro w hSw; go_simp <;> with_reducible rfl
      simp only [Act.put, List.setIfInBounds_toArray, List.set_cons_zero, List.set_cons_succ]
      refine wpAnyH_takeL (i := 7) (v := ?v7) rfl (by kernel_rfl) (by kernel_rfl) (by kernel_rfl) (fun _ _ _ h => h) (by rfl) ?h7 (by assumption) ?_
      case h7 => intro w hSw; go_simp <;> with_reducible rfl
      simp only [Act.put, List.setIfInBounds_toArray, List.set_cons_zero, List.set_cons_succ]
      refine allReadyH_oneL (i := 9) (by kernel_rfl) rfl (by rfl) (fun K hK => ?_)
      refine wp_store_R 24 _ _ rfl _ (C .u64 (wds M)) rfl rfl q (ie4 M) (ze4 M) (C_allL _ _) ?_
      intro wn q5 hg5 hz5
      replace h := h.grown hg5 hq.1
      have hq1 := hq.1
      clear q hg5 hz5 hq
      refine hK.out _ _ h (fun hHeld => ?_)
      clear hK K
      refine wpAnyH_takeL (i := 10) (v := ?v10) rfl (by kernel_rfl) (by kernel_rfl) (by kernel_rfl) (fun _ _ _ h => h) (by rfl) ?h10 (by assumption) ?_
      case h10 => intro w hSw; go_simp <;> with_reducible rfl
      simp only [Act.put, List.setIfInBounds_toArray, List.set_cons_zero, List.set_cons_succ]
      refine wpAnyH_done (by kernel_rfl) ?_ _
      refine NoPanic.normal ?_
      go_wp2
      go_meet
      case rel => exact ⟨g3, rfl, trivial, q5, hq1, h⟩
  case rest =>
    clear h
    obtain ⟨g3, rfl, -, q5, hq1, h⟩ := hcut
    go_wp2_with (refine wpList_load_row rfl 24 _ rfl _ rfl _ _ _ _ q5 Tryd.underlying24 rfl (ie4 M) ?_)
    refine (reduce_any M lM _ (h.tab hT)).mono ?_
    rintro _ wn ⟨rfl, hb⟩
    rw [HM.out]
    replace h := h.below hb
    go_wp2_with (refine wpList_store_R rfl 24 _ _ rfl _ (C .u64 (wds ((A + B) % P))) rfl rfl h.r3 (ie4 _) (ze4 _) (C_allL _ _) ?_; intro w7 q7 hg7 hz7)
    exact result_row Tryd.results13 rfl q7 Tryd.underlying24 rfl (ie4 _) rfl ⟨rfl, below_grown h.bel hg7 (by omega) h.r3.lt⟩
set_option maxHeartbeats 4000000 in
theorem fsub_any (A B : Nat) (hA : A < 115792089237316195423570985008687907853269984665640564039457584007913129639936) (hB : B < 115792089237316195423570985008687907853269984665640564039457584007913129639936) (w : World) (hT : Tab w) : Calls Tryd.prog 15 #[el A, el B] w fun e w' => e = .returned (el ((A % P + (P - B % P)) % P)) ∧ Below w.heap.size w w' := by
  obtain ⟨w4, h4, h⟩ := H2.begin w (C .u64 (wds A)) (C .u64 (wds B)) (C .u64 (Z 4))
  have lA := mod_lt_T A
  have lB := mod_lt_T B
  have hP := P_lt
  have aP := mod_lt_P A
  have bP' := mod_lt_P B
  obtain ⟨M, hM⟩ : ∃ M, (A % P + 115792089237316195423570985008687907853269984665640564039457584007913129639936 - B % P) % 115792089237316195423570985008687907853269984665640564039457584007913129639936 = M := ⟨_, rfl⟩
  have lM : M < 115792089237316195423570985008687907853269984665640564039457584007913129639936 := by rw [← hM]; exact Nat.mod_lt _ (by decide)
  obtain ⟨b, hb0⟩ : ∃ b, decide (A % P < B % P) = b := ⟨_, rfl⟩
  have HM : Away ((b = true → (M + P) % 115792089237316195423570985008687907853269984665640564039457584007913129639936 = (A % P + (P - B % P)) % P) ∧ (b = false → M = (A % P + (P - B % P)) % P)) := by
    have e1 := T_P
    refine ⟨⟨fun h => ?_, fun h => ?_⟩⟩
    · rw [h] at hb0; have := of_decide_eq_true hb0; rw [Nat.mod_eq_of_lt (show A % P + (P - B % P) < P by omega)]; omega
    · rw [h] at hb0; have := of_decide_eq_false hb0; rw [Nat.mod_eq_sub_mod (show P ≤ A % P + (P - B % P) by omega), Nat.mod_eq_of_lt (by omega)]; omega
  have hNl : (M + P) % 115792089237316195423570985008687907853269984665640564039457584007913129639936 < 115792089237316195423570985008687907853269984665640564039457584007913129639936 := Nat.mod_lt _ (by decide)
  obtain ⟨R, hR⟩ : ∃ R, (A % P + (P - B % P)) % P = R := ⟨_, rfl⟩
  rw [hR] at HM ⊢
  clear hR
  unfold el
  go_enter Tryd.func15, Tryd.ntmps15
  go_upto_region 1 with (refine wpList_alloc_row rfl 24 rfl _ z4 ?_)
  simp only [Act.put, List.setIfInBounds_toArray, List.set_cons_zero, List.set_cons_succ, alloc_size, h4]
  clear h4
  replace h := h.drew
  go_cut [5, 6] (fun v5 v6 wc => ∃ g3, v5 = .pointer (some ⟨g3, 0, none⟩) ∧ v6 = .bool b ∧ Row wc g3 24 (C .u64 (wds M)) ∧ w.heap.size + 1 + 1 < g3 ∧ H2 w.heap.size w wc (C .u64 (wds A)) (C .u64 (wds B)) (C .u64 (Z 4)))
  case first =>
    refine wp_region_noPanic ?_
    refine wp_region_held_drew (S := fun w' => H2 w.heap.size w w' (C .u64 (wds A)) (C .u64 (wds B)) (C .u64 (Z 4))) (by kernel_rfl) h (fun hHeld => ?_)
    refine wpAnyH_takeL (i := 0) (v := (.agg (C .u64 (wds A)).toArray)) rfl (by kernel_rfl) (by kernel_rfl) (by kernel_rfl) (fun _ _ _ h => h) (by rfl) ?h0 (by assumption) ?_
    case h0 => intro w hSw; exact exec_load_R 24 _ rfl rfl hSw.r1 Tryd.underlying24 (ie4 A)
    simp only [Act.put, List.setIfInBounds_toArray, List.set_cons_zero, List.set_cons_succ]
    refine wpAnyH_takeL (i := 2) (v := (.agg (C .u64 (wds B)).toArray)) rfl (by kernel_rfl) (by kernel_rfl) (by kernel_rfl) (fun _ _ _ h => h) (by rfl) ?h2 (by assumption) ?_
    case h2 => intro w hSw; exact exec_load_R 24 _ rfl rfl hSw.r2 Tryd.underlying24 (ie4 B)
    simp only [Act.put, List.setIfInBounds_toArray, List.set_cons_zero, List.set_cons_succ]
    refine ready_twoL (i := 1) (j := 8) (by kernel_rfl) rfl rfl (by rfl) (by rfl) (fun K hK => ?_) (fun K hK => ?_)
    · go_simp
      refine (reduce_any A hA _ (h.tab hT)).mono ?_
      rintro _ wn ⟨rfl, hb⟩
      replace h := h.below hb
      clear hb
      refine hK.out _ _ h (fun hHeld => ?_)
      clear hK K
      refine ready_twoL (i := 3) (j := 8) (by kernel_rfl) rfl rfl (by rfl) (by rfl) (fun K hK => ?_) (fun K hK => ?_)
      · go_simp
        refine (reduce_any B hB _ (h.tab hT)).mono ?_
        rintro _ wn ⟨rfl, hb⟩
        replace h := h.below hb
        clear hb
        refine hK.out _ _ h (fun hHeld => ?_)
        clear hK K
        refine ready_twoL (i := 4) (j := 8) (by kernel_rfl) rfl rfl (by rfl) (by rfl) (fun K hK => ?_) (fun K hK => ?_)
        · go_simp
          refine (minus_any (A % P) (B % P) lA lB _).mono ?_
          rintro _ wn ⟨rfl, hb⟩
          replace h := h.below hb
          clear hb
          rw [hM, hb0]
          refine hK.out _ _ h (fun hHeld => ?_)
          clear hK K
          refine wpAnyH_takeL (i := 5) (v := ?v5) rfl (by kernel_rfl) (by kernel_rfl) (by kernel_rfl) (fun _ _ _ h => h) (by rfl) ?h5 (by assumption) ?_
          case h5 => intro w hSw; go_simp <;> with_reducible rfl
          simp only [Act.put, List.setIfInBounds_toArray, List.set_cons_zero, List.set_cons_succ]
          refine wpAnyH_takeL (i := 6) (v := ?v6) rfl (by kernel_rfl) (by kernel_rfl) (by kernel_rfl) (fun _ _ _ h => h) (by rfl) ?h6 (by assumption) ?_
          case h6 => intro w hSw; go_simp <;> with_reducible rfl
          simp only [Act.put, List.setIfInBounds_toArray, List.set_cons_zero, List.set_cons_succ]
          refine wpAnyH_takeL (i := 7) (v := ?v7) rfl (by kernel_rfl) (by kernel_rfl) (by kernel_rfl) (fun _ _ _ h => h) (by rfl) ?h7 (by assumption) ?_
          case h7 => intro w hSw; go_simp <;> with_reducible rfl
          simp only [Act.put, List.setIfInBounds_toArray, List.set_cons_zero, List.set_cons_succ]
          refine allReadyH_oneL (i := 8) (by kernel_rfl) rfl (by rfl) (fun K hK => ?_)
          refine wp_alloc_R 24 rfl (C .u64 (Z 4)) z4 ?_
          obtain ⟨g3, hg3, q, hq⟩ := new_row h
          replace h := h.alloc (.cells (C .u64 (Z 4)).toArray 24)
          rw [hg3]
          clear hg3
          refine hK.out _ _ h (fun hHeld => ?_)
          clear hK K
          refine allReadyH_oneL (i := 9) (by kernel_rfl) rfl (by rfl) (fun K hK => ?_)
          refine wp_store_R 24 _ _ rfl _ (C .u64 (wds M)) rfl rfl q (ie4 M) (ze4 M) (C_allL _ _) ?_
          intro wn q5 hg5 hz5
          replace h := h.grown hg5 hq.1
          have hq1 := hq.1
          clear q hg5 hz5 hq
          refine hK.out _ _ h (fun hHeld => ?_)
          clear hK K
          refine wpAnyH_takeL (i := 10) (v := ?v10) rfl (by kernel_rfl) (by kernel_rfl) (by kernel_rfl) (fun _ _ _ h => h) (by rfl) ?h10 (by assumption) ?_
          case h10 => intro w hSw; go_simp <;> with_reducible rfl
          simp only [Act.put, List.setIfInBounds_toArray, List.set_cons_zero, List.set_cons_succ]
          refine wpAnyH_done (by kernel_rfl) ?_ _
          refine NoPanic.normal ?_
          go_wp2
          go_meet
          case rel => exact ⟨g3, rfl, rfl, q5, hq1, h⟩
        · refine wp_alloc_R 24 rfl (C .u64 (Z 4)) z4 ?_
          obtain ⟨g3, hg3, q, hq⟩ := new_row h
          replace h := h.alloc (.cells (C .u64 (Z 4)).toArray 24)
          rw [hg3]
          clear hg3
          refine hK.out _ _ h (fun hHeld => ?_)
          clear hK K
          refine allReadyH_oneL (i := 4) (by kernel_rfl) rfl (by rfl) (fun K hK => ?_)
          go_simp
          refine (minus_any (A % P) (B % P) lA lB _).mono ?_
          rintro _ wn ⟨rfl, hb⟩
          replace q := q.belowS hb
          replace hq : w.heap.size + 1 + 1 < g3 ∧ g3 < wn.heap.size := ⟨hq.1, Nat.lt_of_lt_of_le hq.2 hb.size⟩
          replace h := h.below hb
          clear hb
          rw [hM, hb0]
          refine hK.out _ _ h (fun hHeld => ?_)
          clear hK K
          refine wpAnyH_takeL (i := 5) (v := ?v5) rfl (by kernel_rfl) (by kernel_rfl) (by kernel_rfl) (fun _ _ _ h => h) (by rfl) ?h5 (by assumption) ?_
          case h5 => intro w hSw; go_simp <;> with_reducible rfl
          simp only [Act.put, List.setIfInBounds_toArray, List.set_cons_zero, List.set_cons_succ]
          refine wpAnyH_takeL (i := 6) (v := ?v6) rfl (by kernel_rfl) (by kernel_rfl) (by kernel_rfl) (fun _ _ _ h => h) (by rfl) ?h6 (by assumption) ?_
          case h6 => intro w hSw; go_simp <;> with_reducible rfl
          simp only [Act.put, List.setIfInBounds_toArray, List.set_cons_zero, List.set_cons_succ]
          refine wpAnyH_takeL (i := 7) (v := ?v7) rfl (by kernel_rfl) (by kernel_rfl) (by kernel_rfl) (fun _ _ _ h => h) (by rfl) ?h7 (by assumption) ?_
          case h7 => intro w hSw; go_simp <;> with_reducible rfl
          simp only [Act.put, List.setIfInBounds_toArray, List.set_cons_zero, List.set_cons_succ]
          refine allReadyH_oneL (i := 9) (by kernel_rfl) rfl (by rfl) (fun K hK => ?_)
          refine wp_store_R 24 _ _ rfl _ (C .u64 (wds M)) rfl rfl q (ie4 M) (ze4 M) (C_allL _ _) ?_
          intro wn q5 hg5 hz5
          replace h := h.grown hg5 hq.1
          have hq1 := hq.1
          clear q hg5 hz5 hq
          refine hK.out _ _ h (fun hHeld => ?_)
          clear hK K
          refine wpAnyH_takeL (i := 10) (v := ?v10) rfl (by kernel_rfl) (by kernel_rfl) (by kernel_rfl) (fun _ _ _ h => h) (by rfl) ?h10 (by assumption) ?_
          case h10 => intro w hSw; go_simp <;> with_reducible rfl
          simp only [Act.put, List.setIfInBounds_toArray, List.set_cons_zero, List.set_cons_succ]
          refine wpAnyH_done (by kernel_rfl) ?_ _
          refine NoPanic.normal ?_
          go_wp2
          go_meet
          case rel => exact ⟨g3, rfl, rfl, q5, hq1, h⟩
      · refine wp_alloc_R 24 rfl (C .u64 (Z 4)) z4 ?_
        obtain ⟨g3, hg3, q, hq⟩ := new_row h
        replace h := h.alloc (.cells (C .u64 (Z 4)).toArray 24)
        rw [hg3]
        clear hg3
        refine hK.out _ _ h (fun hHeld => ?_)
        clear hK K
        refine allReadyH_oneL (i := 3) (by kernel_rfl) rfl (by rfl) (fun K hK => ?_)
        go_simp
        refine (reduce_any B hB _ (h.tab hT)).mono ?_
        rintro _ wn ⟨rfl, hb⟩
        replace q := q.belowS hb
        replace hq : w.heap.size + 1 + 1 < g3 ∧ g3 < wn.heap.size := ⟨hq.1, Nat.lt_of_lt_of_le hq.2 hb.size⟩
        replace h := h.below hb
        clear hb
        refine hK.out _ _ h (fun hHeld => ?_)
        clear hK K
        refine allReadyH_oneL (i := 4) (by kernel_rfl) rfl (by rfl) (fun K hK => ?_)
        go_simp
        refine (minus_any (A % P) (B % P) lA lB _).mono ?_
        rintro _ wn ⟨rfl, hb⟩
        replace q := q.belowS hb
        replace hq : w.heap.size + 1 + 1 < g3 ∧ g3 < wn.heap.size := ⟨hq.1, Nat.lt_of_lt_of_le hq.2 hb.size⟩
        replace h := h.below hb
        clear hb
        rw [hM, hb0]
        refine hK.out _ _ h (fun hHeld => ?_)
        clear hK K
        refine wpAnyH_takeL (i := 5) (v := ?v5) rfl (by kernel_rfl) (by kernel_rfl) (by kernel_rfl) (fun _ _ _ h => h) (by rfl) ?h5 (by assumption) ?_
        case h5 => intro w hSw; go_simp <;> with_reducible rfl
        simp only [Act.put, List.setIfInBounds_toArray, List.set_cons_zero, List.set_cons_succ]
        refine wpAnyH_takeL (i := 6) (v := ?v6) rfl (by kernel_rfl) (by kernel_rfl) (by kernel_rfl) (fun _ _ _ h => h) (by rfl) ?h6 (by assumption) ?_
        case h6 => intro w hSw; go_simp <;> with_reducible rfl
        simp only [Act.put, List.setIfInBounds_toArray, List.set_cons_zero, List.set_cons_succ]
        refine wpAnyH_takeL (i := 7) (v := ?v7) rfl (by kernel_rfl) (by kernel_rfl) (by kernel_rfl) (fun _ _ _ h => h) (by rfl) ?h7 (by assumption) ?_
        case h7 => intro w hSw; go_simp <;> with_reducible rfl
        simp only [Act.put, List.setIfInBounds_toArray, List.set_cons_zero, List.set_cons_succ]
        refine allReadyH_oneL (i := 9) (by kernel_rfl) rfl (by rfl) (fun K hK => ?_)
        refine wp_store_R 24 _ _ rfl _ (C .u64 (wds M)) rfl rfl q (ie4 M) (ze4 M) (C_allL _ _) ?_
        intro wn q5 hg5 hz5
        replace h := h.grown hg5 hq.1
        have hq1 := hq.1
        clear q hg5 hz5 hq
        refine hK.out _ _ h (fun hHeld => ?_)
        clear hK K
        refine wpAnyH_takeL (i := 10) (v := ?v10) rfl (by kernel_rfl) (by kernel_rfl) (by kernel_rfl) (fun _ _ _ h => h) (by rfl) ?h10 (by assumption) ?_
        case h10 => intro w hSw; go_simp <;> with_reducible rfl
        simp only [Act.put, List.setIfInBounds_toArray, List.set_cons_zero, List.set_cons_succ]
        refine wpAnyH_done (by kernel_rfl) ?_ _
        refine NoPanic.normal ?_
        go_wp2
        go_meet
        case rel => exact ⟨g3, rfl, rfl, q5, hq1, h⟩
    · refine wp_alloc_R 24 rfl (C .u64 (Z 4)) z4 ?_
      obtain ⟨g3, hg3, q, hq⟩ := new_row h
      replace h := h.alloc (.cells (C .u64 (Z 4)).toArray 24)
      rw [hg3]
      clear hg3
      refine hK.out _ _ h (fun hHeld => ?_)
      clear hK K
      refine allReadyH_oneL (i := 1) (by kernel_rfl) rfl (by rfl) (fun K hK => ?_)
      go_simp
      refine (reduce_any A hA _ (h.tab hT)).mono ?_
      rintro _ wn ⟨rfl, hb⟩
      replace q := q.belowS hb
      replace hq : w.heap.size + 1 + 1 < g3 ∧ g3 < wn.heap.size := ⟨hq.1, Nat.lt_of_lt_of_le hq.2 hb.size⟩
      replace h := h.below hb
      clear hb
      refine hK.out _ _ h (fun hHeld => ?_)
      clear hK K
      refine allReadyH_oneL (i := 3) (by kernel_rfl) rfl (by rfl) (fun K hK => ?_)
      go_simp
      refine (reduce_any B hB _ (h.tab hT)).mono ?_
      rintro _ wn ⟨rfl, hb⟩
      replace q := q.belowS hb
      replace hq : w.heap.size + 1 + 1 < g3 ∧ g3 < wn.heap.size := ⟨hq.1, Nat.lt_of_lt_of_le hq.2 hb.size⟩
      replace h := h.below hb
      clear hb
      refine hK.out _ _ h (fun hHeld => ?_)
      clear hK K
      refine allReadyH_oneL (i := 4) (by kernel_rfl) rfl (by rfl) (fun K hK => ?_)
      go_simp
      refine (minus_any (A % P) (B % P) lA lB _).mono ?_
      rintro _ wn ⟨rfl, hb⟩
      replace q := q.belowS hb
      replace hq : w.heap.size + 1 + 1 < g3 ∧ g3 < wn.heap.size := ⟨hq.1, Nat.lt_of_lt_of_le hq.2 hb.size⟩
      replace h := h.below hb
      clear hb
      rw [hM, hb0]
      refine hK.out _ _ h (fun hHeld => ?_)
      clear hK K
      refine wpAnyH_takeL (i := 5) (v := ?v5) rfl (by kernel_rfl) (by kernel_rfl) (by kernel_rfl) (fun _ _ _ h => h) (by rfl) ?h5 (by assumption) ?_
      case h5 => intro w hSw; go_simp <;> with_reducible rfl
      simp only [Act.put, List.setIfInBounds_toArray, List.set_cons_zero, List.set_cons_succ]
      refine wpAnyH_takeL (i := 6) (v := ?v6) rfl (by kernel_rfl) (by kernel_rfl) (by kernel_rfl) (fun _ _ _ h => h) (by rfl) ?h6 (by assumption) ?_
      case h6 => intro w hSw; go_simp <;> with_reducible rfl
      simp only [Act.put, List.setIfInBounds_toArray, List.set_cons_zero, List.set_cons_succ]
      refine wpAnyH_takeL (i := 7) (v := ?v7) rfl (by kernel_rfl) (by kernel_rfl) (by kernel_rfl) (fun _ _ _ h => h) (by rfl) ?h7 (by assumption) ?_
      case h7 => intro w hSw; go_simp <;> with_reducible rfl
      simp only [Act.put, List.setIfInBounds_toArray, List.set_cons_zero, List.set_cons_succ]
      refine allReadyH_oneL (i := 9) (by kernel_rfl) rfl (by rfl) (fun K hK => ?_)
      refine wp_store_R 24 _ _ rfl _ (C .u64 (wds M)) rfl rfl q (ie4 M) (ze4 M) (C_allL _ _) ?_
      intro wn q5 hg5 hz5
      replace h := h.grown hg5 hq.1
      have hq1 := hq.1
      clear q hg5 hz5 hq
      refine hK.out _ _ h (fun hHeld => ?_)
      clear hK K
      refine wpAnyH_takeL (i := 10) (v := ?v10) rfl (by kernel_rfl) (by kernel_rfl) (by kernel_rfl) (fun _ _ _ h => h) (by rfl) ?h10 (by assumption) ?_
      case h10 => intro w hSw; go_simp <;> with_reducible rfl
      simp only [Act.put, List.setIfInBounds_toArray, List.set_cons_zero, List.set_cons_succ]
      refine wpAnyH_done (by kernel_rfl) ?_ _
      refine NoPanic.normal ?_
      go_wp2
      go_meet
      case rel => exact ⟨g3, rfl, rfl, q5, hq1, h⟩
  case rest =>
    clear h
    obtain ⟨g3, rfl, rfl, q5, hq1, h⟩ := hcut
    cases b
    · have HR := HM.out.2 rfl
      go_wp2_with (first | refine wpList_load_row rfl 24 _ rfl _ rfl _ _ _ _ q5 Tryd.underlying24 rfl (ie4 _) ?_ | (refine wpList_store_R rfl 24 _ _ rfl _ (C .u64 (wds M)) rfl rfl h.r3 (ie4 _) (ze4 _) (C_allL _ _) ?_; intro w7 q7 hg7 hz7))
      exact result_row Tryd.results15 rfl q7 Tryd.underlying24 rfl (ie4 _) rfl ⟨by rw [HR], below_grown h.bel hg7 (by omega) h.r3.lt⟩
    · have HR := HM.out.1 rfl
      obtain ⟨tg, fg, hTg⟩ := h.tab hT
      go_wp2_with (first | refine wpList_load_row rfl 24 _ rfl _ rfl _ _ _ _ q5 Tryd.underlying24 rfl (ie4 _) ?_ | refine wpList_load_row rfl 24 _ rfl _ rfl _ _ _ _ hTg Tryd.underlying24 rfl (ie4 P) ?_)
      refine (plus_any M P lM hP _).mono ?_
      rintro _ wn2 ⟨rfl, hb⟩
      rw [HR]
      clear HR hM hb0 HM
      generalize (M + P) / 115792089237316195423570985008687907853269984665640564039457584007913129639936 = c2
      clear hNl aP bP' hTg lA lB hP lM hA hB
      replace h := h.below hb
      have q6 := q5.belowS hb
      go_wp2_with (first | (refine wpList_store_R rfl 24 _ _ rfl _ (C .u64 (wds R)) rfl rfl q6 (ie4 _) (ee4 _ _) (C_allL _ _) ?_; intro w6 q6b hg6 hz6; have h6 := h.grown hg6 hq1) | refine wpList_load_row rfl 24 _ rfl _ rfl _ _ _ _ q6b Tryd.underlying24 rfl (ie4 _) ?_ | (refine wpList_store_R rfl 24 _ _ rfl _ (C .u64 (wds R)) rfl rfl h6.r3 (ie4 _) (ze4 _) (C_allL _ _) ?_; intro w7 q7 hg7 hz7))
      exact result_row Tryd.results15 rfl q7 Tryd.underlying24 rfl (ie4 _) rfl ⟨rfl, below_grown h6.bel hg7 (by omega) h6.r3.lt⟩
end Go.Proofs.YtgakpgcjninbgaaDoor.F
