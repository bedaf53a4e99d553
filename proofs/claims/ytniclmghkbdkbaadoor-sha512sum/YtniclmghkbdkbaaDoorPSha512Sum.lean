/-
  Proved: for every byte slice b the law Sha512Sum returns true, and its argument reads as before. No conditions of ours; the package's variable starts as its initialiser lays it, as the given card ties it.
-/
import Derived.Test.YtniclmghkbdkbaaDoorRows
import Derived.Test.YtniclmghkbdkbaaDoorCards
import Derived.Test.YtniclmghkbdkbaaDoorTie
import Derived.SevenTiedAt
import Derived.Test.YtniclmghkbdkbaaDoorLaw3
import Derived.WalkKit
import Derived.ProofKit
import Derived.OpenShut
import Derived.ShutString
import Derived.ChangeOld
import Derived.Below
namespace Go.Proofs.YtniclmghkbdkbaaDoor.sha512Sum
open Go.ChangeShapes Go.WideShapes Go.ChangeAt Go.RowKit
open Go.ChangeMaps (open_string shut_string)
set_option linter.unusedVariables false

theorem own : ownKnob Tryd.prog.godebug = none := by kernel_rfl
theorem laidOut : laidOutB Tryd.prog = true := by kernel_rfl

set_option maxRecDepth 10000 in
set_option maxHeartbeats 1600000 in
/-- The walk: the law returns true and writes nothing that was there. -/
theorem walk (a0 : Option Addr) (len0 cap0 : Nat) (z0 : List Int) (w : World) (w0 : IsRow .u8 w a0 len0 cap0 z0) (hTab : S3.Tab w) :
    Calls Tryd.prog 3 #[.slice a0 len0 cap0] w fun e w' => e = .returned (.bool true) ∧ Below w.heap.size w w' := by
  obtain ⟨xs, hs, hlen, hbx⟩ := w0.bytes
  clear w0
  have hml := hs.len
  rw [C_length, hlen] at hml
  have hmx : (len0 : Int) ≤ 9223372036854775807 := by unfold maxLen at hml; omega
  by_cases hlong : 400 < len0
  · have hl' : (400 : Int) < (len0 : Int) := by omega
    go_enter Tryd.func3, Tryd.ntmps3
    go_wp2_with fail
    refine (S3.alive8_true _ hTab).mono ?_
    rintro e w' ⟨rfl, hb⟩
    go_wp2
    go_ret
    exact ⟨rfl, hb⟩
  · have hl' : ¬ (400 : Int) < (len0 : Int) := by omega
    have hA : Below w.heap.size w (w.alloc (.cells #[] 5)) := (Below.refl _ _).alloc (Nat.le_refl _) _
    have hsA := hs.below hA
    have hoA := own_empty w w.heap.size 5 (Nat.le_refl _)
    go_enter Tryd.func3, Tryd.ntmps3
    go_wp2_with (at_builtin; refine wpList_append_sl rfl (.tmp 10) (.tmp 11) 22 rfl w.heap.size 5 _ 1 Tryd.underlying22 S3.inf8 rfl _ 0 [] rfl hoA _ (C .u8 xs) rfl hsA (C_one _ _) (by rw [C_length]; unfold maxLen; omega) (by rw [C_length]; omega) hA.size ?_)
    intro v1 w1 ho1 hg1
    have hb1 : Below w.heap.size w w1 := hA.grown hg1 hA.size (fun k hk => (hoA.lt k hk).1)
    have ho1 : w1.ownsRow w.heap.size 5 1 v1 len0 (C .u8 xs) := by simpa [C_length, hlen] using ho1
    have hO1 := SlV.ofOwn ho1
    clear hg1 hoA hsA hA ho1
    obtain ⟨H1, hH1⟩ : ∃ H1, (S3.sum3 false xs).take 48 = H1 := ⟨_, rfl⟩
    obtain ⟨H2, hH2⟩ : ∃ H2, S3.sum3 true xs = H2 := ⟨_, rfl⟩
    have hn1 : H1.length = 48 := by rw [← hH1, List.length_take, S3.sum3_length]; rfl
    have hn2 : H2.length = 64 := by rw [← hH2, S3.sum3_length]
    have HH1 := Away.mk hH1
    have HH2 := Away.mk hH2
    clear hH1 hH2
    go_wp2_with fail
    refine (S3.sum384_any v1 xs _ hO1 hbx (by omega) (hTab.below hb1)).mono ?_
    rintro e w2 ⟨rfl, hb2⟩
    rw [HH1.out]
    have hO2 := hO1.below hb2
    have hb2 := hb1.trans (hb2.mono hb1.size)
    clear hO1 hb1
    go_wp2_with fail
    refine (S3.sum512_any v1 xs _ hO2 hbx (by omega) (hTab.below hb2)).mono ?_
    rintro e w3 ⟨rfl, hb3⟩
    rw [HH2.out]
    have hO3 := hO2.below hb3
    have hb3 := hb2.trans (hb3.mono hb2.size)
    clear hO2 hb2
    have hP3 := (Row.new w3 24 (C .u8 (Z 48))).alloc (.cells (C .u8 (Z 64)).toArray 26)
    have hQ3 := Row.new (w3.alloc (.cells (C .u8 (Z 48)).toArray 24)) 26 (C .u8 (Z 64))
    have hL3a := Below.more (Below.refl w3.heap.size w3) (Nat.le_refl _) (.cells (C .u8 (Z 48)).toArray 24)
    have hL3 := (Below.more hL3a.1 hL3a.2 (.cells (C .u8 (Z 64)).toArray 26)).1
    clear hL3a
    have hsz := hb3.size
    have i28H : (Tryd.prog.info? 24).map (·.size) = some (C .u8 H1).length := by rw [C_length, hn1]; exact S3.i48
    have i32H : (Tryd.prog.info? 26).map (·.size) = some (C .u8 H2).length := by rw [C_length, hn2]; exact S3.i64
    have h28H : (C .u8 (Z 48)).length = (C .u8 H1).length := by rw [C_length, C_length, hn1, Z_length]
    have h32H : (C .u8 (Z 64)).length = (C .u8 H2).length := by rw [C_length, C_length, hn2, Z_length]
    go_upto_region 5 with (first | refine wpList_alloc_row rfl 24 rfl _ S3.z48 ?_ | refine wpList_alloc_row rfl 26 rfl _ S3.z64 ?_ | (refine wpList_store_R rfl 24 _ _ rfl _ (C .u8 H1) rfl rfl hP3 i28H h28H (C_allL _ _) ?_; intro w4 hP4 hg4 hz4; have hQ4 := hQ3.grown hg4 (by simp <;> omega); have hL4 := below_grown hL3 hg4 (Nat.le_refl _) hP3.lt) | (refine wpList_store_R rfl 26 _ _ rfl _ (C .u8 H2) rfl rfl hQ4 i32H h32H (C_allL _ _) ?_; intro w5 hQ5 hg5 hz5; have hP5 := hP4.grown hg5 (by simp <;> omega); have hL5 := below_grown hL4 hg5 (by rw [alloc_size]; omega) hQ4.lt))
    rw [alloc_size] at hQ5
    have hO0 := hO3.below hL5
    have hL0 := hb3.trans (hL5.mono hb3.size)
    obtain ⟨g4, hg4e⟩ : ∃ g4, w3.heap.size = g4 := ⟨_, rfl⟩
    obtain ⟨g5, hg5e⟩ : ∃ g5, w3.heap.size + 1 = g5 := ⟨_, rfl⟩
    rw [hg4e] at hP5
    rw [hg5e] at hQ5
    simp only [Act.put, List.setIfInBounds_toArray, List.set_cons_zero, List.set_cons_succ, alloc_size]
    rw [hg5e, hg4e]
    have hP0 : SlV w5 (.slice (some ⟨g4, 0, none⟩) 48 48) (C .u8 H1) := by
      have := hP5.slAll (by rw [C_length, hn1]; decide)
      rwa [C_length, hn1] at this
    have hQ0 : SlV w5 (.slice (some ⟨g5, 0, none⟩) 64 64) (C .u8 H2) := by
      have := hQ5.slAll (by rw [C_length, hn2]; decide)
      rwa [C_length, hn2] at this
    have hs0 := hs.below hL0
    clear hP3 hQ3 hL3 hP4 hQ4 hL4 hg4 hz4 hg5 hz5 hO3 hb3 hL5 hP5 hQ5 hg4e hg5e hs
    replace hP0 : SlV w5.drew _ _ := hP0.keep fun _ _ _ => rfl
    replace hQ0 : SlV w5.drew _ _ := hQ0.keep fun _ _ _ => rfl
    replace hO0 : SlV w5.drew _ _ := hO0.keep fun _ _ _ => rfl
    replace hs0 : SlV w5.drew _ _ := hs0.keep fun _ _ _ => rfl
    replace hL0 := hL0.drew
    refine wp_region_noPanic ?_
    refine wp_region_held_drew (S := fun w' => SlV w' (.slice (some ⟨g4, 0, none⟩) 48 48) (C .u8 H1) ∧ SlV w' (.slice (some ⟨g5, 0, none⟩) 64 64) (C .u8 H2) ∧ SlV w' v1 (C .u8 xs) ∧ SlV w' (.slice a0 len0 cap0) (C .u8 xs)) (by kernel_rfl) (⟨hP0, hQ0, hO0, hs0⟩) (fun hHeld => ?_)
    refine allReadyH_oneL (i := 0) (by kernel_rfl) rfl (by rfl) (fun K hK => ?_)
    go_simp
    refine (S3.alive8_true _ (hTab.below hL0)).mono ?_
    rintro _ w1 ⟨rfl, hb1⟩
    have hP1 := hP0.below hb1
    have hQ1 := hQ0.below hb1
    have hO1 := hO0.below hb1
    have hs1 := hs0.below hb1
    have hL1 := hL0.trans (hb1.mono hL0.size)
    clear hP0 hQ0 hO0 hs0 hL0 hb1
    refine hK.out _ _ (⟨hP1, hQ1, hO1, hs1⟩) (fun hHeld => ?_)
    clear hK K
    refine wpAnyH_takeL (i := 1) (v := ?v1) rfl (by kernel_rfl) (by kernel_rfl) (by kernel_rfl) (fun _ _ _ h => h) (by rfl) ?h1 (by assumption) ?_
    case h1 => intro w hSw; go_simp <;> with_reducible rfl
    simp only [Act.put, List.setIfInBounds_toArray, List.set_cons_zero, List.set_cons_succ]
    refine wpAnyH_takeL (i := 2) (v := ?v2) rfl (by kernel_rfl) (by kernel_rfl) (by kernel_rfl) (fun _ _ _ h => h) (by rfl) ?h2 (by assumption) ?_
    case h2 => intro w hSw; go_simp <;> with_reducible rfl
    simp only [Act.put, List.setIfInBounds_toArray, List.set_cons_zero, List.set_cons_succ]
    refine wpAnyH_takeL (i := 3) (v := (.string (strOfNums (H1.map Int.ofNat)))) rfl (by kernel_rfl) (by kernel_rfl) (by kernel_rfl) (fun _ _ _ h => h) (by rfl) ?h3 (by assumption) ?_
    case h3 => intro w hSw; exact by have hc := S3.str8 (hSw.1); go_simp
    simp only [Act.put, List.setIfInBounds_toArray, List.set_cons_zero, List.set_cons_succ]
    refine wpAnyH_takeL (i := 4) (v := ?v4) rfl (by kernel_rfl) (by kernel_rfl) (by kernel_rfl) (fun _ _ _ h => h) (by rfl) ?h4 (by assumption) ?_
    case h4 => intro w hSw; go_simp <;> with_reducible rfl
    simp only [Act.put, List.setIfInBounds_toArray, List.set_cons_zero, List.set_cons_succ]
    refine allReadyH_oneL (i := 5) (by kernel_rfl) rfl (by rfl) (fun K hK => ?_)
    go_simp
    refine (S3.refsum_any false _ xs _ hs1 hbx (by omega)).mono ?_
    rintro _ w2 ⟨v5, rfl, hv5, hb2⟩
    rw [S3.hash3_false] at hv5
    rw [HH1.out] at hv5
    have hP2 := hP1.below hb2
    have hQ2 := hQ1.below hb2
    have hO2 := hO1.below hb2
    have hs2 := hs1.below hb2
    have hL2 := hL1.trans (hb2.mono hL1.size)
    clear hP1 hQ1 hO1 hs1 hL1 hb2
    have hc5 := S3.str8 hv5
    refine hK.out _ _ (⟨hP2, hQ2, hO2, hs2⟩) (fun hHeld => ?_)
    clear hK K
    refine allReadyH_oneL (i := 6) (by kernel_rfl) rfl (by rfl) (fun K hK => ?_)
    go_simp
    clear hc5 hv5
    refine hK.out _ _ (⟨hP2, hQ2, hO2, hs2⟩) (fun hHeld => ?_)
    clear hK K
    refine wpAnyH_takeL (i := 7) (v := ?v7) rfl (by kernel_rfl) (by kernel_rfl) (by kernel_rfl) (fun _ _ _ h => h) (by rfl) ?h7 (by assumption) ?_
    case h7 => intro w hSw; go_simp <;> with_reducible rfl
    simp only [Act.put, List.setIfInBounds_toArray, List.set_cons_zero, List.set_cons_succ]
    refine wpAnyH_takeL (i := 8) (v := ?v8) rfl (by kernel_rfl) (by kernel_rfl) (by kernel_rfl) (fun _ _ _ h => h) (by rfl) ?h8 (by assumption) ?_
    case h8 => intro w hSw; go_simp <;> with_reducible rfl
    simp only [Act.put, List.setIfInBounds_toArray, List.set_cons_zero, List.set_cons_succ]
    refine wpAnyH_takeL (i := 9) (v := ?v9) rfl (by kernel_rfl) (by kernel_rfl) (by kernel_rfl) (fun _ _ _ h => h) (by rfl) ?h9 (by assumption) ?_
    case h9 => intro w hSw; go_simp <;> with_reducible rfl
    simp only [Act.put, List.setIfInBounds_toArray, List.set_cons_zero, List.set_cons_succ]
    refine wpAnyH_takeL (i := 10) (v := ?v10) rfl (by kernel_rfl) (by kernel_rfl) (by kernel_rfl) (fun _ _ _ h => h) (by rfl) ?h10 (by assumption) ?_
    case h10 => intro w hSw; go_simp <;> with_reducible rfl
    simp only [Act.put, List.setIfInBounds_toArray, List.set_cons_zero, List.set_cons_succ]
    refine wpAnyH_takeL (i := 11) (v := (.string (strOfNums (H2.map Int.ofNat)))) rfl (by kernel_rfl) (by kernel_rfl) (by kernel_rfl) (fun _ _ _ h => h) (by rfl) ?h11 (by assumption) ?_
    case h11 => intro w hSw; exact by have hc := S3.str8 (hSw.2.1); go_simp
    simp only [Act.put, List.setIfInBounds_toArray, List.set_cons_zero, List.set_cons_succ]
    refine wpAnyH_takeL (i := 12) (v := ?v12) rfl (by kernel_rfl) (by kernel_rfl) (by kernel_rfl) (fun _ _ _ h => h) (by rfl) ?h12 (by assumption) ?_
    case h12 => intro w hSw; go_simp <;> with_reducible rfl
    simp only [Act.put, List.setIfInBounds_toArray, List.set_cons_zero, List.set_cons_succ]
    refine allReadyH_oneL (i := 13) (by kernel_rfl) rfl (by rfl) (fun K hK => ?_)
    go_simp
    refine (S3.refsum_any true _ xs _ hs2 hbx (by omega)).mono ?_
    rintro _ w3 ⟨v6, rfl, hv6, hb3⟩
    rw [S3.hash3_true] at hv6
    rw [HH2.out] at hv6
    have hP3 := hP2.below hb3
    have hQ3 := hQ2.below hb3
    have hO3 := hO2.below hb3
    have hs3 := hs2.below hb3
    have hL3 := hL2.trans (hb3.mono hL2.size)
    clear hP2 hQ2 hO2 hs2 hL2 hb3
    have hc6 := S3.str8 hv6
    refine hK.out _ _ (⟨hP3, hQ3, hO3, hs3⟩) (fun hHeld => ?_)
    clear hK K
    refine allReadyH_oneL (i := 14) (by kernel_rfl) rfl (by rfl) (fun K hK => ?_)
    go_simp
    clear hc6 hv6
    refine hK.out _ _ (⟨hP3, hQ3, hO3, hs3⟩) (fun hHeld => ?_)
    clear hK K
    refine wpAnyH_takeL (i := 15) (v := ?v15) rfl (by kernel_rfl) (by kernel_rfl) (by kernel_rfl) (fun _ _ _ h => h) (by rfl) ?h15 (by assumption) ?_
    case h15 => intro w hSw; go_simp <;> with_reducible rfl
    simp only [Act.put, List.setIfInBounds_toArray, List.set_cons_zero, List.set_cons_succ]
    refine wpAnyH_takeL (i := 16) (v := ?v16) rfl (by kernel_rfl) (by kernel_rfl) (by kernel_rfl) (fun _ _ _ h => h) (by rfl) ?h16 (by assumption) ?_
    case h16 => intro w hSw; go_simp <;> with_reducible rfl
    simp only [Act.put, List.setIfInBounds_toArray, List.set_cons_zero, List.set_cons_succ]
    refine wpAnyH_takeL (i := 17) (v := ?v17) rfl (by kernel_rfl) (by kernel_rfl) (by kernel_rfl) (fun _ _ _ h => h) (by rfl) ?h17 (by assumption) ?_
    case h17 => intro w hSw; go_simp <;> with_reducible rfl
    simp only [Act.put, List.setIfInBounds_toArray, List.set_cons_zero, List.set_cons_succ]
    refine wpAnyH_takeL (i := 18) (v := ?v18) rfl (by kernel_rfl) (by kernel_rfl) (by kernel_rfl) (fun _ _ _ h => h) (by rfl) ?h18 (by assumption) ?_
    case h18 => intro w hSw; go_simp <;> with_reducible rfl
    simp only [Act.put, List.setIfInBounds_toArray, List.set_cons_zero, List.set_cons_succ]
    refine wpAnyH_takeL (i := 19) (v := (.string (strOfNums (xs.map Int.ofNat)))) rfl (by kernel_rfl) (by kernel_rfl) (by kernel_rfl) (fun _ _ _ h => h) (by rfl) ?h19 (by assumption) ?_
    case h19 => intro w hSw; exact by have hc := S3.str8 (hSw.2.2.1); go_simp
    simp only [Act.put, List.setIfInBounds_toArray, List.set_cons_zero, List.set_cons_succ]
    refine wpAnyH_takeL (i := 20) (v := ?v20) rfl (by kernel_rfl) (by kernel_rfl) (by kernel_rfl) (fun _ _ _ h => h) (by rfl) ?h20 (by assumption) ?_
    case h20 => intro w hSw; go_simp <;> with_reducible rfl
    simp only [Act.put, List.setIfInBounds_toArray, List.set_cons_zero, List.set_cons_succ]
    refine wpAnyH_takeL (i := 21) (v := (.string (strOfNums (xs.map Int.ofNat)))) rfl (by kernel_rfl) (by kernel_rfl) (by kernel_rfl) (fun _ _ _ h => h) (by rfl) ?h21 (by assumption) ?_
    case h21 => intro w hSw; exact by have hc := S3.str8 (hSw.2.2.2); go_simp
    simp only [Act.put, List.setIfInBounds_toArray, List.set_cons_zero, List.set_cons_succ]
    refine wpAnyH_takeL (i := 22) (v := ?v22) rfl (by kernel_rfl) (by kernel_rfl) (by kernel_rfl) (fun _ _ _ h => h) (by rfl) ?h22 (by assumption) ?_
    case h22 => intro w hSw; go_simp <;> with_reducible rfl
    simp only [Act.put, List.setIfInBounds_toArray, List.set_cons_zero, List.set_cons_succ]
    refine wpAnyH_takeL (i := 23) (v := ?v23) rfl (by kernel_rfl) (by kernel_rfl) (by kernel_rfl) (fun _ _ _ h => h) (by rfl) ?h23 (by assumption) ?_
    case h23 => intro w hSw; go_simp <;> with_reducible rfl
    simp only [Act.put, List.setIfInBounds_toArray, List.set_cons_zero, List.set_cons_succ]
    refine wpAnyH_takeL (i := 24) (v := ?v24) rfl (by kernel_rfl) (by kernel_rfl) (by kernel_rfl) (fun _ _ _ h => h) (by rfl) ?h24 (by assumption) ?_
    case h24 => intro w hSw; go_simp <;> with_reducible rfl
    simp only [Act.put, List.setIfInBounds_toArray, List.set_cons_zero, List.set_cons_succ]
    refine wpAnyH_done (by kernel_rfl) ?_ _
    refine NoPanic.normal ?_
    go_wp2
    go_ret
    exact ⟨rfl, hL3⟩

set_option maxRecDepth 100000 in
theorem lifted (os : Os) (started : os.Started) (H : Type) (enc : TypeId × Value → H) :
    ReturnsInHanded {} Tryd.checked os 3 .any (fun w args => (Rows.sha512SumSpec.pre enc Tryd.prog Tryd.f3 [] false w args ∧ laidMetH Tryd.prog S3.laid1 w) ∧ sizedMet enc Tryd.prog Tryd.f3 (OpenSpec.ofChange Rows.sha512SumSpec) false w args) (Rows.sha512SumSpec.post enc Tryd.prog Tryd.f3 false true false false) := by
  refine returnsInHanded_of_change_and (C := Tryd.checked) (X := fun w _ => laidMetH Tryd.prog S3.laid1 w) (fun _ _ _ hh h => h.of_heap hh) own started (by kernel_rfl) Tryd.func3
    (ChangeSpec.witness_shaped (enc := enc) (C := Tryd.checked) (os := os) (X := fun w _ => laidMetH Tryd.prog S3.laid1 w) false (World.doorLaid Tryd.prog 400 os) #[.slice none 0 0] 8 rfl (World.shaped_of_RefB (by kernel_rfl) (by kernel_rfl)) (by kernel_rfl) (by kernel_rfl) (by kernel_rfl) (S3.door_met os _)) ?_
  intro W base args ds gs before hval0 hW _ _ hLd _
  have hval : ∀ (j : Nat) t v, Tryd.f3.params[j]? = some t → args[j]? = some v → Value.okWide Tryd.prog W .any base t v := hval0
  have hW' := hW
  obtain ⟨p, q, hA0, hV, rfl, hfz, hnd⟩ := hW
  have hA : DataW.TrodAll enc Tryd.prog W 0 (fun _ => true) true Tryd.f3.params.toList args.toList ds p := hA0
  rw [Tryd.params3] at hA hval
  obtain ⟨v0, vs0, d0, ds0, p0, q0, hargs, rfl, rfl, h0, r0⟩ := trodAll_cons hA
  obtain ⟨rfl, rfl, rfl⟩ := trodAll_nil r0
  obtain rfl : args = #[v0] := by cases args; simp_all
  obtain ⟨rfl, rfl⟩ := trodVars_none hV
  obtain ⟨a0, len0, cap0, rfl⟩ := okWide_slice Tryd.underlying22 (hval 0 22 v0 rfl rfl)
  have k0 := h0
  have lt0 : ∀ x ∈ p0, x.block < W.heap.size := by obtain ⟨m, hm⟩ := k0; exact DataW.trod_lt m _ _ _ hm
  obtain ⟨z0, w0⟩ : ∃ zs, IsRow .u8 W a0 len0 cap0 zs := by
    obtain ⟨fuel, hf⟩ := h0
    rcases open_ints Tryd.underlying22 Tryd.underlying5 (by kernel_rfl) hf with ⟨hcs, _⟩ | ⟨x, l, c, zs, hcs, _, hl, hm, hz, _, hcell, hwz⟩
    · simp [Value.cells] at hcs
      obtain ⟨rfl, rfl, rfl⟩ := hcs
      exact ⟨[], .inl ⟨rfl, rfl, rfl, rfl⟩⟩
    · simp [Value.cells] at hcs
      obtain ⟨rfl, rfl, rfl⟩ := hcs
      exact ⟨zs, .inr ⟨_, rfl, hl, hm, by simpa using hz, hcell, hwz⟩⟩
  clear hA0 hval0
  refine (walk a0 len0 cap0 z0 W w0 (S3.of_laid hLd)).mono fun e W' ⟨he, bel⟩ => ?_
  subst he
  exact ⟨_, rfl, _, _, _, [], _, [], hW', trodAll_mk1 (shut_bool Tryd.underlying4 _), (trodAll_cons_mk (Below.trod laidOut (by kernel_rfl) (of_decide_eq_true (by kernel_rfl)) k0 bel lt0) trodAll_mk0), rfl, bel.frame _, fun h => by cases h⟩

theorem over : Rows.sha512SumRow.holds Tryd.pinned (OpenSpec.ofChange Rows.sha512SumSpec) :=
  OpenClaim.holds_of_wide 3 Tryd.f3 rfl rfl rfl rfl rfl rfl rfl ⟨rfl, rfl, rfl, rfl, rfl⟩ rfl rfl rfl rfl rfl (by kernel_rfl) Tryd.func3 (by kernel_rfl)
    (of_decide_eq_true (by kernel_rfl)) (by unfold Func.isWrapper; first | (rw [if_pos (by decide +kernel)]; kernel_rfl) | (rw [if_neg (by decide +kernel)]; exact ⟨rfl, rfl⟩))
    (fun os started H enc _ => lifted os started H enc)

end Go.Proofs.YtniclmghkbdkbaaDoor.sha512Sum
namespace Go.Proofs.YtniclmghkbdkbaaDoor
/-- The given statement. -/
theorem sha512Sum_proved : Rows.Sha512SumCardSaid :=
  Claim7.holds_tied_plain_at .later [] [.data] true (true, "811edfb1be13716fa3f6f04c4fb46979b36beed6323c6561f9e0df8f7ac8aa31") false
    sha512Sum.over (fun _ h => by cases h) (by kernel_rfl) (fun _ h => by cases h) sha512Sum_row_tie rfl ⟨rfl, rfl⟩ (by kernel_rfl) rfl
    (fun f fn hf hfn => by
      obtain rfl : f = 3 := Option.some.inj ((show Tryd.prog.funcNamed "affiant/affiantlaw08.Sha512Sum" = some 3 by kernel_rfl).symm.trans hf) |>.symm
      obtain rfl : fn = Tryd.f3 := (Option.some.inj (Tryd.func3.symm.trans hfn)).symm
      exact ⟨by kernel_rfl, fun j t ht => by
        rw [Tryd.params3] at ht
        have hm : t ∈ ([22] : List TypeId) := by simpa using Array.mem_of_getElem? ht
        have hall : (([22] : List TypeId).all fun u => !Tryd.prog.wantsStandIn u) = true := by kernel_rfl
        exact (show Tryd.prog.wantsStandIn t = false by simpa using List.all_eq_true.1 hall t hm)⟩)
    (by kernel_rfl)
end Go.Proofs.YtniclmghkbdkbaaDoor
