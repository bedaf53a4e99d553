/-
  The contract of the document's Right of the third hash: the numbers are just those that the roots tell; over this seat's translation. No conditions.
-/
import Derived.Test.YtniclmghkbdkbaaDoorRf3R
import Derived.Test.YtniclmghkbdkbaaDoorRf3A
import Derived.Test.YtniclmghkbdkbaaDoorSh3E
namespace Go.Proofs.YtniclmghkbdkbaaDoor.S3
open Go.RowKit
set_option linter.unusedVariables false

theorem PL_lo (i : Nat) : PL.getD i 0 ≤ 1000 := by
  have h : Lo 1001 PL := by
    have h : (PL.all fun x => decide (x < 1001)) = true := by decide +kernel
    intro x hx
    exact of_decide_eq_true (List.all_eq_true.1 h x hx)
  have := h.getD (by decide) i
  omega
theorem map_get {f : Nat → Nat} {l m : List Nat} (h : l.map f = m) {i : Nat} (hi : i < l.length) : f (l.getD i 0) = m.getD i 0 := by
  subst h
  simp [List.getD, List.getElem?_eq_getElem hi]
theorem all_get {f : Nat → Bool} {l : List Nat} (h : l.all f = true) {i : Nat} (hi : i < l.length) : f (l.getD i 0) = true := by
  simp only [List.getD, List.getElem?_eq_getElem hi, Option.getD_some]
  exact List.all_eq_true.1 h _ (List.getElem_mem hi)
theorem cube_i (i : Nat) (hi : i < 80) : rtP true (PL.getD i 0) % 18446744073709551616 = K3 i := map_get cubes_right (by rw [PL_length]; exact hi)
theorem cube_g (i : Nat) (hi : i < 80) : 281474976710656 ≤ rtP true (PL.getD i 0) := of_decide_eq_true (all_get cubes_great (by rw [PL_length]; exact hi))
theorem take_getD (l : List Nat) (n i : Nat) (h : i < n) : (l.take n).getD i 0 = l.getD i 0 := by simp [List.getD, h]
theorem drop_getD (l : List Nat) (n i : Nat) : (l.drop n).getD i 0 = l.getD (n + i) 0 := by simp [List.getD]
theorem square_i (i : Nat) (hi : i < 8) : rtP false (PL.getD i 0) % 18446744073709551616 = startL.list.getD i 0 := by
  have := map_get squares_right (i := i) hi
  rwa [take_getD _ _ _ hi] at this
theorem square_j (i : Nat) (hi : i < 8) : rtP false (PL.getD (i + 8) 0) % 18446744073709551616 = startS.list.getD i 0 := by
  have := map_get squares_right2 (i := i) hi
  rwa [take_getD _ _ _ hi, drop_getD, Nat.add_comm] at this
theorem square_g (i : Nat) (hi : i < 16) : 281474976710656 ≤ rtP false (PL.getD i 0) := by
  have := of_decide_eq_true (all_get squares_great (i := i) hi)
  rwa [take_getD _ _ _ hi] at this

set_option maxRecDepth 10000 in
set_option maxHeartbeats 3200000 in
theorem right_true (w : World) : Calls Tryd.prog 18 #[] w fun e w' => e = .returned (.bool true) ∧ Below w.heap.size w w' := by
  go_enter Tryd.func18, Tryd.ntmps18
  go_wp2_with fail
  refine (primes_any _).mono ?_
  rintro _ w1 ⟨v1, rfl, hPL, hb1⟩
  go_wp2_with fail
  refine (refsteps_any _).mono ?_
  rintro _ w2 ⟨rfl, rfl⟩
  have hb2 := (Below.refl w1.heap.size w1).alloc (Nat.le_refl _) (.cells (C .u64 K3L).toArray 30)
  have hK : SlV (w1.alloc (.cells (C .u64 K3L).toArray 30)) (.slice (some ⟨w1.heap.size, 0, none⟩) 80 80) (C .u64 K3L) := by
    have := (Row.new w1 30 (C .u64 K3L)).slAll (by rw [C_length, K3L_length]; decide)
    rwa [C_length, K3L_length] at this
  replace hPL := hPL.below hb2
  have hL := hb1.trans (hb2.mono hb1.size)
  have hg2 : w1.heap.size < (w1.alloc (.cells (C .u64 K3L).toArray 30)).heap.size := by simp
  clear hb1 hb2
  obtain ⟨g2, hg2e⟩ : ∃ g, w1.heap.size = g := ⟨_, rfl⟩
  rw [hg2e] at hK hg2 ⊢
  generalize w1.alloc (.cells (C .u64 K3L).toArray 30) = w3 at *
  clear hg2e
  obtain ⟨a1, cap1, rfl, q1, q2⟩ := hPL.shp PL_length
  obtain ⟨g1, off1, rfl, _, _⟩ := hPL.cells (by rw [C_length, PL_length]; decide)
  have hg1 : g1 < w3.heap.size := by
    obtain ⟨b, off, e, hbl, _⟩ := hPL.cells (by rw [C_length, PL_length]; decide)
    cases e
    exact hbl
  go_wp2
  go_loopw [3] (fun iv wr => ∃ i : Nat, i ≤ 80 ∧ iv = .int .i64 i ∧ SlV wr (.slice (some ⟨g1, off1, none⟩) 80 cap1) (C .u64 PL) ∧ SlV wr (.slice (some ⟨g2, 0, none⟩) 80 80) (C .u64 K3L) ∧ Below w.heap.size w wr) (fun iv _ => 80 - (intOf iv).toNat)
  case atStart => exact ⟨0, Nat.zero_le _, rfl, hPL, hK, hL⟩
  case round =>
    clear hPL hK hL
    obtain ⟨i, hi, rfl, hPL, hK, hL⟩ := hrel
    by_cases hi64 : i < 80
    · have hii : (i : Int) < 80 := by omega
      obtain ⟨_, _, e1, hbl1, hcx⟩ := hPL.cells (by rw [C_length, PL_length]; decide)
      cases e1
      obtain ⟨_, _, e2, hbl2, hcy⟩ := hK.cells (by rw [C_length, K3L_length]; decide)
      cases e2
      have cp := hcx i _ (C_get .u64 (by rw [PL_length]; exact hi64))
      have ck := hcy i _ (C_get .u64 (by rw [K3L_length]; exact hi64))
      rw [Nat.zero_add] at ck
      rw [show K3L.getD i 0 = K3 i from rfl] at ck
      have hp := PL_lo i
      have hR := cube_g i hi64
      have hX := cube_i i hi64
      have hkl := K3_lt i
      generalize PL.getD i 0 = p at *
      generalize K3 i = kk at *
      have HX := Away.mk hX
      clear hX hcx hcy
      have hPLd : SlV wr.drew _ _ := hPL.keep fun _ _ _ => rfl
      have hKd : SlV wr.drew _ _ := hK.keep fun _ _ _ => rfl
      have hLd := hL.drew
      go_upto_region 6 with fail
      refine wp_region_noPanic ?_
      refine wp_region_held_drew (S := fun w' => w'.cell? ⟨g1, off1 + i, none⟩ = some (.int .u64 (p : Int)) ∧ w'.cell? ⟨g2, i, none⟩ = some (.int .u64 (kk : Int))) (by kernel_rfl) (⟨cp, ck⟩) (fun hHeld => ?_)
      refine wpAnyH_takeL (i := 0) (v := ?v0) rfl (by kernel_rfl) (by kernel_rfl) (by kernel_rfl) (fun _ _ _ h => h) (by rfl) ?h0 (by assumption) ?_
      case h0 => intro w hSw; go_simp <;> with_reducible rfl
      simp only [Act.put, List.setIfInBounds_toArray, List.set_cons_zero, List.set_cons_succ]
      refine wpAnyH_takeL (i := 1) (v := ?v1) rfl (by kernel_rfl) (by kernel_rfl) (by kernel_rfl) (fun _ _ _ h => h) (by rfl) ?h1 (by assumption) ?_
      case h1 => intro w hSw; go_simp <;> with_reducible rfl
      simp only [Act.put, List.setIfInBounds_toArray, List.set_cons_zero, List.set_cons_succ]
      refine wpAnyH_takeL (i := 2) (v := ?v2) rfl (by kernel_rfl) (by kernel_rfl) (by kernel_rfl) (fun _ _ _ h => h) (by rfl) ?h2 (by assumption) ?_
      case h2 => intro w hSw; go_simp <;> with_reducible rfl
      simp only [Act.put, List.setIfInBounds_toArray, List.set_cons_zero, List.set_cons_succ]
      refine wpAnyH_takeL (i := 3) (v := ?v3) rfl (by kernel_rfl) (by kernel_rfl) (by kernel_rfl) (fun _ _ _ h => h) (by rfl) ?h3 (by assumption) ?_
      case h3 => intro w hSw; go_simp <;> with_reducible rfl
      simp only [Act.put, List.setIfInBounds_toArray, List.set_cons_zero, List.set_cons_succ]
      refine wpAnyH_takeL (i := 5) (v := ?v5) rfl (by kernel_rfl) (by kernel_rfl) (by kernel_rfl) (fun _ _ _ h => h) (by rfl) ?h5 (by assumption) ?_
      case h5 => intro w hSw; go_simp <;> with_reducible rfl
      simp only [Act.put, List.setIfInBounds_toArray, List.set_cons_zero, List.set_cons_succ]
      refine wpAnyH_takeL (i := 6) (v := ?v6) rfl (by kernel_rfl) (by kernel_rfl) (by kernel_rfl) (fun _ _ _ h => h) (by rfl) ?h6 (by assumption) ?_
      case h6 => intro w hSw; go_simp <;> with_reducible rfl
      simp only [Act.put, List.setIfInBounds_toArray, List.set_cons_zero, List.set_cons_succ]
      refine wpAnyH_takeL (i := 7) (v := ?v7) rfl (by kernel_rfl) (by kernel_rfl) (by kernel_rfl) (fun _ _ _ h => h) (by rfl) ?h7 (by assumption) ?_
      case h7 => intro w hSw; go_simp <;> with_reducible rfl
      simp only [Act.put, List.setIfInBounds_toArray, List.set_cons_zero, List.set_cons_succ]
      refine wpAnyH_takeL (i := 8) (v := ?v8) rfl (by kernel_rfl) (by kernel_rfl) (by kernel_rfl) (fun _ _ _ h => h) (by rfl) ?h8 (by assumption) ?_
      case h8 => intro w hSw; go_simp <;> with_reducible rfl
      simp only [Act.put, List.setIfInBounds_toArray, List.set_cons_zero, List.set_cons_succ]
      refine allReadyH_oneL (i := 4) (by kernel_rfl) rfl (by rfl) (fun K hK => ?_)
      go_simp
      refine (root_any p true hp hR _).mono ?_
      rintro _ w4 ⟨rfl, hb4⟩
      rw [HX.out]
      have hPL4 := hPLd.below hb4
      have hK4 := hKd.below hb4
      have hL4 := hLd.trans (hb4.mono hLd.size)
      have cp4 := (hb4.cell (p := ⟨g1, off1 + i, none⟩) hbl1).trans cp
      have ck4 := (hb4.cell (p := ⟨g2, i, none⟩) hbl2).trans ck
      clear hb4
      refine hK.out _ _ (⟨cp4, ck4⟩) (fun hHeld => ?_)
      clear hK K
      refine wpAnyH_takeL (i := 9) (v := ?v9) rfl (by kernel_rfl) (by kernel_rfl) (by kernel_rfl) (fun _ _ _ h => h) (by rfl) ?h9 (by assumption) ?_
      case h9 => intro w hSw; go_simp <;> with_reducible rfl
      simp only [Act.put, List.setIfInBounds_toArray, List.set_cons_zero, List.set_cons_succ]
      refine wpAnyH_done (by kernel_rfl) ?_ _
      refine NoPanic.normal ?_
      clear cp4 ck4 cp ck hHeld hPLd hKd hLd hPL hK hL
      go_wp2
      go_roundw
      case rel => exact ⟨i + 1, by omega, by go_num, hPL4, hK4, hL4⟩
      case measure => simp [intOf]; omega
    · have hii : ¬ (i : Int) < 80 := by omega
      go_wp2_with fail
      refine (refstart_any true _).mono ?_
      rintro _ w4 ⟨rfl, hb4⟩
      have hPL4 := hPL.below hb4
      have hL4 := hL.trans (hb4.mono hL.size)
      clear hPL hK hL hb4
      go_wp2_with fail
      refine (refstart_any false _).mono ?_
      rintro _ w5 ⟨rfl, hb5⟩
      have hPL5 := hPL4.below hb5
      have hL5 := hL4.trans (hb5.mono hL4.size)
      clear hPL4 hL4 hb5
      rw [show start3 true = startL from rfl, show start3 false = startS from rfl]
      have hA5 := (Row.new w5 31 (C .u64 (Z 8))).alloc (.cells (C .u64 (Z 8)).toArray 31)
      have hB5 := Row.new (w5.alloc (.cells (C .u64 (Z 8)).toArray 31)) 31 (C .u64 (Z 8))
      have hLa := Below.more (Below.refl w5.heap.size w5) (Nat.le_refl _) (.cells (C .u64 (Z 8)).toArray 31)
      have hLb := (Below.more hLa.1 hLa.2 (.cells (C .u64 (Z 8)).toArray 31)).1
      clear hLa
      have i8L : (Tryd.prog.info? 31).map (·.size) = some (C .u64 startL.list).length := i8
      have i8S : (Tryd.prog.info? 31).map (·.size) = some (C .u64 startS.list).length := i8
      have h8L : (C .u64 (Z 8)).length = (C .u64 startL.list).length := rfl
      have h8S : (C .u64 (Z 8)).length = (C .u64 startS.list).length := rfl
      go_upto_region 9 with (first | refine wpList_alloc_row rfl 31 rfl _ z8 ?_ | (refine wpList_store_R rfl 31 _ _ rfl _ (C .u64 startS.list) rfl rfl hB6 i8S h8S (C_allL _ _) ?_; intro w7 hB7 hg7 hz7; have hA7 := hA6.grown hg7 (by simp <;> omega); have hLe := below_grown hLd hg7 (by rw [alloc_size]; omega) hB6.lt) | (refine wpList_store_R rfl 31 _ _ rfl _ (C .u64 startL.list) rfl rfl hA5 i8L h8L (C_allL _ _) ?_; intro w6 hA6 hg6 hz6; have hB6 := hB5.grown hg6 (by simp <;> omega); have hLd := below_grown hLb hg6 (Nat.le_refl _) hA5.lt))
      rw [alloc_size] at hB7
      simp only [Act.put, List.setIfInBounds_toArray, List.set_cons_zero, List.set_cons_succ, alloc_size]
      have hPL7 := hPL5.below hLe
      have hL7 := hL5.trans (hLe.mono hL5.size)
      obtain ⟨g4, hg4e⟩ : ∃ g, w5.heap.size = g := ⟨_, rfl⟩
      obtain ⟨g5, hg5e⟩ : ∃ g, w5.heap.size + 1 = g := ⟨_, rfl⟩
      rw [hg4e] at hA7
      rw [hg5e] at hB7
      rw [hg5e, hg4e]
      clear hA5 hB5 hLb hA6 hB6 hLd hLe hg6 hz6 hg7 hz7 hPL5 hL5 hg4e hg5e
      go_wp2
      go_loopw [6] (fun iv wr => ∃ i : Nat, i ≤ 8 ∧ iv = .int .i64 i ∧ SlV wr (.slice (some ⟨g1, off1, none⟩) 80 cap1) (C .u64 PL) ∧ Row wr g4 31 (C .u64 startL.list) ∧ Row wr g5 31 (C .u64 startS.list) ∧ Below w.heap.size w wr) (fun iv _ => 8 - (intOf iv).toNat)
      case atStart => exact ⟨0, Nat.zero_le _, rfl, hPL7, hA7, hB7, hL7⟩
      case round =>
        clear hPL7 hA7 hB7 hL7
        obtain ⟨i, hi, rfl, hPL, hA, hB, hL⟩ := hrel
        by_cases hi8 : i < 8
        · have hii : (i : Int) < 8 := by omega
          have hi64 : (i : Int) < 80 := by omega
          obtain ⟨_, _, e1, hbl1d, hcx⟩ := hPL.cells (by rw [C_length, PL_length]; decide)
          cases e1
          have c1d := hcx i _ (C_get .u64 (by rw [PL_length]; omega))
          obtain ⟨j, hj⟩ : ∃ j, i + 8 = j := ⟨_, rfl⟩
          have c2d := hcx j _ (C_get .u64 (by rw [PL_length]; omega))
          have c3d := hA.cell i
          rw [C_get .u64 (show i < startL.list.length from hi8)] at c3d
          have c4d := hB.cell i
          rw [C_get .u64 (show i < startS.list.length from hi8)] at c4d
          have hp := PL_lo i
          have hR := square_g i (by omega)
          have hX := square_i i hi8
          have hp' := PL_lo j
          have hR' := square_g j (by omega)
          have hX' := square_j i hi8
          rw [hj] at hX'
          have la := list_lt startL_ok i
          have lb := list_lt startS_ok i
          generalize PL.getD i 0 = p at *
          generalize PL.getD j 0 = p' at *
          generalize startL.list.getD i 0 = aa at *
          generalize startS.list.getD i 0 = bb at *
          have HX := Away.mk hX
          have HX' := Away.mk hX'
          have ej : IntKind.i64.wrap ((i : Int) + 8) = (j : Int) := by rw [IntWalk.i64_in _ ⟨by omega, by omega⟩]; omega
          have hj64 : (j : Int) < 80 := by omega
          clear hX hX' hcx hj
          have hPLd : SlV wr.drew _ _ := hPL.keep fun _ _ _ => rfl
          have hAd := hA.drew
          have hBd := hB.drew
          have hLd := hL.drew
          go_upto_region 12 with fail
          refine wp_region_noPanic ?_
          refine wp_region_held_drew (S := fun w' => w'.cell? ⟨g1, off1 + i, none⟩ = some (.int .u64 (p : Int)) ∧ w'.cell? ⟨g1, off1 + j, none⟩ = some (.int .u64 (p' : Int)) ∧ w'.cell? ⟨g4, i, none⟩ = some (.int .u64 (aa : Int)) ∧ w'.cell? ⟨g5, i, none⟩ = some (.int .u64 (bb : Int))) (by kernel_rfl) (⟨c1d, c2d, c3d, c4d⟩) (fun hHeld => ?_)
          refine wpAnyH_takeL (i := 0) (v := ?v0z) rfl (by kernel_rfl) (by kernel_rfl) (by kernel_rfl) (fun _ _ _ h => h) (by rfl) ?h0z (by assumption) ?_
          case h0z => intro w hSw; go_simp <;> with_reducible rfl
          simp only [Act.put, List.setIfInBounds_toArray, List.set_cons_zero, List.set_cons_succ]
          refine wpAnyH_takeL (i := 1) (v := ?v1z) rfl (by kernel_rfl) (by kernel_rfl) (by kernel_rfl) (fun _ _ _ h => h) (by rfl) ?h1z (by assumption) ?_
          case h1z => intro w hSw; go_simp <;> with_reducible rfl
          simp only [Act.put, List.setIfInBounds_toArray, List.set_cons_zero, List.set_cons_succ]
          refine wpAnyH_takeL (i := 2) (v := ?v2z) rfl (by kernel_rfl) (by kernel_rfl) (by kernel_rfl) (fun _ _ _ h => h) (by rfl) ?h2z (by assumption) ?_
          case h2z => intro w hSw; go_simp <;> with_reducible rfl
          simp only [Act.put, List.setIfInBounds_toArray, List.set_cons_zero, List.set_cons_succ]
          refine wpAnyH_takeL (i := 3) (v := ?v3z) rfl (by kernel_rfl) (by kernel_rfl) (by kernel_rfl) (fun _ _ _ h => h) (by rfl) ?h3z (by assumption) ?_
          case h3z => intro w hSw; go_simp <;> with_reducible rfl
          simp only [Act.put, List.setIfInBounds_toArray, List.set_cons_zero, List.set_cons_succ]
          refine wpAnyH_takeL (i := 5) (v := ?v5z) rfl (by kernel_rfl) (by kernel_rfl) (by kernel_rfl) (fun _ _ _ h => h) (by rfl) ?h5z (by assumption) ?_
          case h5z => intro w hSw; go_simp <;> with_reducible rfl
          simp only [Act.put, List.setIfInBounds_toArray, List.set_cons_zero, List.set_cons_succ]
          refine wpAnyH_takeL (i := 6) (v := ?v6z) rfl (by kernel_rfl) (by kernel_rfl) (by kernel_rfl) (fun _ _ _ h => h) (by rfl) ?h6z (by assumption) ?_
          case h6z => intro w hSw; go_simp <;> with_reducible rfl
          simp only [Act.put, List.setIfInBounds_toArray, List.set_cons_zero, List.set_cons_succ]
          refine wpAnyH_takeL (i := 7) (v := ?v7z) rfl (by kernel_rfl) (by kernel_rfl) (by kernel_rfl) (fun _ _ _ h => h) (by rfl) ?h7z (by assumption) ?_
          case h7z => intro w hSw; go_simp <;> with_reducible rfl
          simp only [Act.put, List.setIfInBounds_toArray, List.set_cons_zero, List.set_cons_succ]
          refine allReadyH_oneL (i := 4) (by kernel_rfl) rfl (by rfl) (fun K hK => ?_)
          go_simp
          refine (root_any p false hp hR _).mono ?_
          rintro _ w7 ⟨rfl, hb7⟩
          rw [HX.out]
          have hPL7 := hPLd.below hb7
          have hA7 := hAd.belowS hb7
          have hB7 := hBd.belowS hb7
          have hL7 := hLd.trans (hb7.mono hLd.size)
          have c17 := (hb7.cell (p := ⟨g1, off1 + i, none⟩) hbl1d).trans c1d
          have c27 := (hb7.cell (p := ⟨g1, off1 + j, none⟩) hbl1d).trans c2d
          have c37 := (hb7.cell (p := ⟨g4, i, none⟩) hAd.lt).trans c3d
          have c47 := (hb7.cell (p := ⟨g5, i, none⟩) hBd.lt).trans c4d
          have hbl17 : g1 < w7.heap.size := Nat.lt_of_lt_of_le hbl1d hb7.size
          clear hb7
          refine hK.out _ _ (⟨c17, c27, c37, c47⟩) (fun hHeld => ?_)
          clear hK K
          refine wpAnyH_takeL (i := 8) (v := ?v8z) rfl (by kernel_rfl) (by kernel_rfl) (by kernel_rfl) (fun _ _ _ h => h) (by rfl) ?h8z (by assumption) ?_
          case h8z => intro w hSw; go_simp <;> with_reducible rfl
          simp only [Act.put, List.setIfInBounds_toArray, List.set_cons_zero, List.set_cons_succ]
          refine wpAnyH_takeL (i := 9) (v := ?v9z) rfl (by kernel_rfl) (by kernel_rfl) (by kernel_rfl) (fun _ _ _ h => h) (by rfl) ?h9z (by assumption) ?_
          case h9z => intro w hSw; go_simp <;> with_reducible rfl
          simp only [Act.put, List.setIfInBounds_toArray, List.set_cons_zero, List.set_cons_succ]
          refine wpAnyH_takeL (i := 10) (v := ?v10z) rfl (by kernel_rfl) (by kernel_rfl) (by kernel_rfl) (fun _ _ _ h => h) (by rfl) ?h10z (by assumption) ?_
          case h10z => intro w hSw; go_simp <;> with_reducible rfl
          simp only [Act.put, List.setIfInBounds_toArray, List.set_cons_zero, List.set_cons_succ]
          refine wpAnyH_takeL (i := 11) (v := ?v11z) rfl (by kernel_rfl) (by kernel_rfl) (by kernel_rfl) (fun _ _ _ h => h) (by rfl) ?h11z (by assumption) ?_
          case h11z => intro w hSw; go_simp <;> with_reducible rfl
          simp only [Act.put, List.setIfInBounds_toArray, List.set_cons_zero, List.set_cons_succ]
          refine wpAnyH_takeL (i := 12) (v := ?v12z) rfl (by kernel_rfl) (by kernel_rfl) (by kernel_rfl) (fun _ _ _ h => h) (by rfl) ?h12z (by assumption) ?_
          case h12z => intro w hSw; go_simp <;> with_reducible rfl
          simp only [Act.put, List.setIfInBounds_toArray, List.set_cons_zero, List.set_cons_succ]
          refine wpAnyH_takeL (i := 13) (v := ?v13z) rfl (by kernel_rfl) (by kernel_rfl) (by kernel_rfl) (fun _ _ _ h => h) (by rfl) ?h13z (by assumption) ?_
          case h13z => intro w hSw; go_simp <;> with_reducible rfl
          simp only [Act.put, List.setIfInBounds_toArray, List.set_cons_zero, List.set_cons_succ]
          refine wpAnyH_takeL (i := 14) (v := ?v14z) rfl (by kernel_rfl) (by kernel_rfl) (by kernel_rfl) (fun _ _ _ h => h) (by rfl) ?h14z (by assumption) ?_
          case h14z => intro w hSw; go_simp <;> with_reducible rfl
          simp only [Act.put, List.setIfInBounds_toArray, List.set_cons_zero, List.set_cons_succ]
          refine wpAnyH_takeL (i := 16) (v := ?v16z) rfl (by kernel_rfl) (by kernel_rfl) (by kernel_rfl) (fun _ _ _ h => h) (by rfl) ?h16z (by assumption) ?_
          case h16z => intro w hSw; go_simp <;> with_reducible rfl
          simp only [Act.put, List.setIfInBounds_toArray, List.set_cons_zero, List.set_cons_succ]
          refine wpAnyH_takeL (i := 17) (v := ?v17z) rfl (by kernel_rfl) (by kernel_rfl) (by kernel_rfl) (fun _ _ _ h => h) (by rfl) ?h17z (by assumption) ?_
          case h17z => intro w hSw; go_simp <;> with_reducible rfl
          simp only [Act.put, List.setIfInBounds_toArray, List.set_cons_zero, List.set_cons_succ]
          refine wpAnyH_takeL (i := 18) (v := ?v18z) rfl (by kernel_rfl) (by kernel_rfl) (by kernel_rfl) (fun _ _ _ h => h) (by rfl) ?h18z (by assumption) ?_
          case h18z => intro w hSw; go_simp <;> with_reducible rfl
          simp only [Act.put, List.setIfInBounds_toArray, List.set_cons_zero, List.set_cons_succ]
          refine allReadyH_oneL (i := 15) (by kernel_rfl) rfl (by rfl) (fun K hK => ?_)
          go_simp
          refine (root_any p' false hp' hR' _).mono ?_
          rintro _ w8 ⟨rfl, hb8⟩
          rw [HX'.out]
          have hPL8 := hPL7.below hb8
          have hA8 := hA7.belowS hb8
          have hB8 := hB7.belowS hb8
          have hL8 := hL7.trans (hb8.mono hL7.size)
          have c18 := (hb8.cell (p := ⟨g1, off1 + i, none⟩) hbl17).trans c17
          have c28 := (hb8.cell (p := ⟨g1, off1 + j, none⟩) hbl17).trans c27
          have c38 := (hb8.cell (p := ⟨g4, i, none⟩) hA7.lt).trans c37
          have c48 := (hb8.cell (p := ⟨g5, i, none⟩) hB7.lt).trans c47
          have hbl18 : g1 < w8.heap.size := Nat.lt_of_lt_of_le hbl17 hb8.size
          clear hb8
          refine hK.out _ _ (⟨c18, c28, c38, c48⟩) (fun hHeld => ?_)
          clear hK K
          refine wpAnyH_takeL (i := 19) (v := ?v19z) rfl (by kernel_rfl) (by kernel_rfl) (by kernel_rfl) (fun _ _ _ h => h) (by rfl) ?h19z (by assumption) ?_
          case h19z => intro w hSw; go_simp <;> with_reducible rfl
          simp only [Act.put, List.setIfInBounds_toArray, List.set_cons_zero, List.set_cons_succ]
          refine wpAnyH_takeL (i := 20) (v := ?v20z) rfl (by kernel_rfl) (by kernel_rfl) (by kernel_rfl) (fun _ _ _ h => h) (by rfl) ?h20z (by assumption) ?_
          case h20z => intro w hSw; go_simp <;> with_reducible rfl
          simp only [Act.put, List.setIfInBounds_toArray, List.set_cons_zero, List.set_cons_succ]
          refine wpAnyH_done (by kernel_rfl) ?_ _
          refine NoPanic.normal ?_
          clear c1d c2d c3d c4d c17 c27 c37 c47 c18 c28 c38 c48 hHeld hPLd hAd hBd hLd hPL7 hA7 hB7 hL7 hPL hA hB hL ej
          go_wp2
          go_roundw
          case rel => exact ⟨i + 1, by omega, by go_num, hPL8, hA8, hB8, hL8⟩
          case measure => simp [intOf]; omega
        · have hii : ¬ (i : Int) < 8 := by omega
          go_wp2
          go_ret
          exact ⟨rfl, hL⟩
end Go.Proofs.YtniclmghkbdkbaaDoor.S3
