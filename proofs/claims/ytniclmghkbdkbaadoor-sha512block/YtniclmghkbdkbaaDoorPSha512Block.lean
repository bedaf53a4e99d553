/-
  Proved: for every eight 64-bit numbers h, every block b of 128 bytes and every int t the law Sha512Block returns true, and its arguments read as before. No conditions of ours; the package's variable starts as its initialiser lays it, as the given card ties it.
-/
import Derived.Test.YtniclmghkbdkbaaDoorRows
import Derived.Test.YtniclmghkbdkbaaDoorCards
import Derived.Test.YtniclmghkbdkbaaDoorTie
import Derived.SevenTiedAt
import Derived.Test.YtniclmghkbdkbaaDoorLaw3
import Derived.WalkKit
import Derived.ProofKit
import Derived.OpenShut
import Derived.ShutString
import Derived.ChangeOld
import Derived.Below
namespace Go.Proofs.YtniclmghkbdkbaaDoor.sha512Block
open Go.ChangeShapes Go.WideShapes Go.ChangeAt Go.RowKit
open Go.ChangeMaps (open_string shut_string)
set_option linter.unusedVariables false

theorem own : ownKnob Tryd.prog.godebug = none := by kernel_rfl
theorem laidOut : laidOutB Tryd.prog = true := by kernel_rfl

/-- Both Steps tell the same. -/
theorem steps_same (t : Int) (w : World) (hTab : S3.Tab w) : ∃ x e : Int, 0 ≤ x ∧ Calls Tryd.prog 12 #[.int .i64 t] w (fun r w' => r = .returned (.tuple #[.int .u64 x, .int .i64 e]) ∧ w = w') ∧ ∀ w2, Calls Tryd.prog 13 #[.int .i64 t] w2 (fun r w' => r = .returned (.tuple #[.int .u64 x, .int .i64 e]) ∧ Below w2.heap.size w2 w') := by
  by_cases h : 0 ≤ t ∧ t < 80
  · obtain ⟨n, rfl⟩ : ∃ n : Nat, t = (n : Int) := ⟨t.toNat, by omega⟩
    exact ⟨_, _, by omega, S3.step_in n (by omega) w hTab, fun w2 => S3.refstep_in n (by omega) w2⟩
  · refine ⟨0, 1, by decide, S3.step_out t (by omega) w, fun w2 => (S3.refstep_out t (by omega) w2).mono ?_⟩
    rintro _ w' ⟨rfl, rfl⟩
    exact ⟨rfl, Below.refl _ _⟩

set_option maxRecDepth 10000 in
set_option maxHeartbeats 1600000 in
/-- The walk: the law returns true and writes nothing that was there. -/
theorem walk (s : S3.S8) (hs : s.ok) (b : List Nat) (hb : Lo 256 b) (hl : b.length = 128) (t : Int) (w : World) (hTab : S3.Tab w) :
    Calls Tryd.prog 4 #[.agg (C .u64 s.list).toArray, .agg (C .u8 b).toArray, .int .i64 t] w fun e w' => e = .returned (.bool true) ∧ Below w.heap.size w w' := by
  have hA0 := (Row.new w 31 (C .u64 s.list)).alloc (.cells (C .u8 b).toArray 32)
  have hB0 := Row.newAt (w.alloc (.cells (C .u64 s.list).toArray 31)) (w.heap.size + 1) (by simp) 32 (C .u8 b)
  have hL' := Below.more (Below.refl w.heap.size w) (Nat.le_refl _) (.cells (C .u64 s.list).toArray 31)
  have hL0 := (Below.more hL'.1 hL'.2 (.cells (C .u8 b).toArray 32)).1
  clear hL'
  have hl64 : (Tryd.prog.info? 32).map (·.size) = some (C .u8 b).length := by rw [C_length, hl]; exact S3.i128
  have hsl : ∀ {x : World}, Row x (w.heap.size + 1) 32 (C .u8 b) → SlV x (.slice (some ⟨w.heap.size + 1, 0, none⟩) 128 128) (C .u8 b) := fun h => by
    have := h.slAll (by rw [C_length, hl]; unfold maxLen; omega)
    rwa [C_length, hl] at this
  obtain ⟨T, hT⟩ : ∃ T, S3.blk3 s b = T := ⟨_, rfl⟩
  have HT := Away.mk hT
  obtain ⟨U, hU⟩ : ∃ U, S3.start3 true = U := ⟨_, rfl⟩
  have HU := Away.mk hU
  obtain ⟨V, hV⟩ : ∃ V, S3.start3 false = V := ⟨_, rfl⟩
  have HV := Away.mk hV
  clear hT hU hV
  have he1 := fun w => S3.eq8 w T.list T.list rfl rfl
  have he2 := fun w => S3.eq8 w U.list U.list rfl rfl
  have he3 := fun w => S3.eq8 w V.list V.list rfl rfl
  simp only [decide_true] at he1 he2 he3
  obtain ⟨x, e, hx0, c1, c2⟩ := steps_same t _ (hTab.below hL0)
  go_enter Tryd.func4, Tryd.ntmps4
  go_wp2_with fail
  refine c1.mono ?_
  rintro _ w' ⟨rfl, rfl⟩
  generalize (w.alloc (.cells (C .u64 s.list).toArray 31)).alloc (.cells (C .u8 b).toArray 32) = w0 at *
  go_wp2_with fail
  refine (c2 _).mono ?_
  rintro _ w' ⟨rfl, hbs⟩
  replace hA0 := hA0.belowS hbs
  replace hB0 := hB0.belowS hbs
  replace hL0 := hL0.trans (hbs.mono hL0.size)
  clear hbs c1 c2
  go_upto_region 3 with fail
  replace hA0 := hA0.drew
  replace hB0 := hB0.drew
  replace hL0 := hL0.drew
  refine wp_region_noPanic ?_
  refine wp_region_held_drew (S := fun w' => Row w' w.heap.size 31 (C .u64 s.list) ∧ Row w' (w.heap.size + 1) 32 (C .u8 b)) (by kernel_rfl) (⟨hA0, hB0⟩) (fun hHeld => ?_)
  refine allReadyH_oneL (i := 0) (by kernel_rfl) rfl (by rfl) (fun K hK => ?_)
  go_simp
  refine (S3.alive8_true _ (hTab.below hL0)).mono ?_
  rintro _ w1 ⟨rfl, hb1⟩
  have hA1 := hA0.belowS hb1
  have hB1 := hB0.belowS hb1
  have hL1 := hL0.trans (hb1.mono hL0.size)
  clear hA0 hB0 hL0 hb1
  refine hK.out _ _ (⟨hA1, hB1⟩) (fun hHeld => ?_)
  clear hK K
  refine wpAnyH_takeL (i := 1) (v := ?v1) rfl (by kernel_rfl) (by kernel_rfl) (by kernel_rfl) (fun _ _ _ h => h) (by rfl) ?h1 (by assumption) ?_
  case h1 => intro w hSw; go_simp <;> with_reducible rfl
  simp only [Act.put, List.setIfInBounds_toArray, List.set_cons_zero, List.set_cons_succ]
  refine wpAnyH_takeL (i := 2) (v := (.agg (C .u64 s.list).toArray)) rfl (by kernel_rfl) (by kernel_rfl) (by kernel_rfl) (fun _ _ _ h => h) (by rfl) ?h2 (by assumption) ?_
  case h2 => intro w hSw; exact exec_load_R 31 _ rfl rfl hSw.1 Tryd.underlying31 S3.i8
  simp only [Act.put, List.setIfInBounds_toArray, List.set_cons_zero, List.set_cons_succ]
  refine wpAnyH_takeL (i := 3) (v := (.agg (C .u8 b).toArray)) rfl (by kernel_rfl) (by kernel_rfl) (by kernel_rfl) (fun _ _ _ h => h) (by rfl) ?h3 (by assumption) ?_
  case h3 => intro w hSw; exact exec_load_R 32 _ rfl rfl hSw.2 Tryd.underlying32 hl64
  simp only [Act.put, List.setIfInBounds_toArray, List.set_cons_zero, List.set_cons_succ]
  refine wpAnyH_takeL (i := 5) (v := (.agg (C .u64 s.list).toArray)) rfl (by kernel_rfl) (by kernel_rfl) (by kernel_rfl) (fun _ _ _ h => h) (by rfl) ?h5 (by assumption) ?_
  case h5 => intro w hSw; exact exec_load_R 31 _ rfl rfl hSw.1 Tryd.underlying31 S3.i8
  simp only [Act.put, List.setIfInBounds_toArray, List.set_cons_zero, List.set_cons_succ]
  refine wpAnyH_takeL (i := 6) (v := ?v6) rfl (by kernel_rfl) (by kernel_rfl) (by kernel_rfl) (fun _ _ _ h => h) (by rfl) ?h6 (by assumption) ?_
  case h6 => intro w hSw; go_simp <;> with_reducible rfl
  simp only [Act.put, List.setIfInBounds_toArray, List.set_cons_zero, List.set_cons_succ]
  refine allReadyH_oneL (i := 4) (by kernel_rfl) rfl (by rfl) (fun K hK => ?_)
  go_simp
  refine (S3.block_any s hs b hb hl _ (hTab.below hL1)).mono ?_
  rintro _ w2 ⟨rfl, hb2⟩
  rw [HT.out]
  have hA2 := hA1.belowS hb2
  have hB2 := hB1.belowS hb2
  have hL2 := hL1.trans (hb2.mono hL1.size)
  clear hA1 hB1 hL1 hb2
  refine hK.out _ _ (⟨hA2, hB2⟩) (fun hHeld => ?_)
  clear hK K
  refine allReadyH_oneL (i := 7) (by kernel_rfl) rfl (by rfl) (fun K hK => ?_)
  go_simp
  refine (S3.refblock_any s hs _ b _ (hsl hB2) hb hl).mono ?_
  rintro _ w3 ⟨rfl, hb3⟩
  rw [HT.out]
  have hA3 := hA2.belowS hb3
  have hB3 := hB2.belowS hb3
  have hL3 := hL2.trans (hb3.mono hL2.size)
  clear hA2 hB2 hL2 hb3
  refine hK.out _ _ (⟨hA3, hB3⟩) (fun hHeld => ?_)
  clear hK K
  refine wpAnyH_takeL (i := 8) (v := ?v8) rfl (by kernel_rfl) (by kernel_rfl) (by kernel_rfl) (fun _ _ _ h => h) (by rfl) ?h8 (by assumption) ?_
  case h8 => intro w hSw; go_simp <;> with_reducible rfl
  simp only [Act.put, List.setIfInBounds_toArray, List.set_cons_zero, List.set_cons_succ]
  refine wpAnyH_takeL (i := 9) (v := ?v9) rfl (by kernel_rfl) (by kernel_rfl) (by kernel_rfl) (fun _ _ _ h => h) (by rfl) ?h9 (by assumption) ?_
  case h9 => intro w hSw; go_simp <;> with_reducible rfl
  simp only [Act.put, List.setIfInBounds_toArray, List.set_cons_zero, List.set_cons_succ]
  refine wpAnyH_takeL (i := 10) (v := ?v10) rfl (by kernel_rfl) (by kernel_rfl) (by kernel_rfl) (fun _ _ _ h => h) (by rfl) ?h10 (by assumption) ?_
  case h10 => intro w hSw; go_simp <;> with_reducible rfl
  simp only [Act.put, List.setIfInBounds_toArray, List.set_cons_zero, List.set_cons_succ]
  refine allReadyH_oneL (i := 11) (by kernel_rfl) rfl (by rfl) (fun K hK => ?_)
  go_simp
  refine (S3.start_any true _).mono ?_
  rintro _ w4 ⟨rfl, hb4⟩
  rw [HU.out]
  have hA4 := hA3.belowS hb4
  have hB4 := hB3.belowS hb4
  have hL4 := hL3.trans (hb4.mono hL3.size)
  clear hA3 hB3 hL3 hb4
  refine hK.out _ _ (⟨hA4, hB4⟩) (fun hHeld => ?_)
  clear hK K
  refine allReadyH_oneL (i := 12) (by kernel_rfl) rfl (by rfl) (fun K hK => ?_)
  go_simp
  refine (S3.refstart_any true _).mono ?_
  rintro _ w5 ⟨rfl, hb5⟩
  rw [HU.out]
  have hA5 := hA4.belowS hb5
  have hB5 := hB4.belowS hb5
  have hL5 := hL4.trans (hb5.mono hL4.size)
  clear hA4 hB4 hL4 hb5
  refine hK.out _ _ (⟨hA5, hB5⟩) (fun hHeld => ?_)
  clear hK K
  refine wpAnyH_takeL (i := 13) (v := ?v13) rfl (by kernel_rfl) (by kernel_rfl) (by kernel_rfl) (fun _ _ _ h => h) (by rfl) ?h13 (by assumption) ?_
  case h13 => intro w hSw; go_simp <;> with_reducible rfl
  simp only [Act.put, List.setIfInBounds_toArray, List.set_cons_zero, List.set_cons_succ]
  refine wpAnyH_takeL (i := 14) (v := ?v14) rfl (by kernel_rfl) (by kernel_rfl) (by kernel_rfl) (fun _ _ _ h => h) (by rfl) ?h14 (by assumption) ?_
  case h14 => intro w hSw; go_simp <;> with_reducible rfl
  simp only [Act.put, List.setIfInBounds_toArray, List.set_cons_zero, List.set_cons_succ]
  refine wpAnyH_takeL (i := 15) (v := ?v15) rfl (by kernel_rfl) (by kernel_rfl) (by kernel_rfl) (fun _ _ _ h => h) (by rfl) ?h15 (by assumption) ?_
  case h15 => intro w hSw; go_simp <;> with_reducible rfl
  simp only [Act.put, List.setIfInBounds_toArray, List.set_cons_zero, List.set_cons_succ]
  refine allReadyH_oneL (i := 16) (by kernel_rfl) rfl (by rfl) (fun K hK => ?_)
  go_simp
  refine (S3.start_any false _).mono ?_
  rintro _ w6 ⟨rfl, hb6⟩
  rw [HV.out]
  have hA6 := hA5.belowS hb6
  have hB6 := hB5.belowS hb6
  have hL6 := hL5.trans (hb6.mono hL5.size)
  clear hA5 hB5 hL5 hb6
  refine hK.out _ _ (⟨hA6, hB6⟩) (fun hHeld => ?_)
  clear hK K
  refine allReadyH_oneL (i := 17) (by kernel_rfl) rfl (by rfl) (fun K hK => ?_)
  go_simp
  refine (S3.refstart_any false _).mono ?_
  rintro _ w7 ⟨rfl, hb7⟩
  rw [HV.out]
  have hA7 := hA6.belowS hb7
  have hB7 := hB6.belowS hb7
  have hL7 := hL6.trans (hb7.mono hL6.size)
  clear hA6 hB6 hL6 hb7
  refine hK.out _ _ (⟨hA7, hB7⟩) (fun hHeld => ?_)
  clear hK K
  refine wpAnyH_takeL (i := 18) (v := ?v18) rfl (by kernel_rfl) (by kernel_rfl) (by kernel_rfl) (fun _ _ _ h => h) (by rfl) ?h18 (by assumption) ?_
  case h18 => intro w hSw; go_simp <;> with_reducible rfl
  simp only [Act.put, List.setIfInBounds_toArray, List.set_cons_zero, List.set_cons_succ]
  refine wpAnyH_takeL (i := 19) (v := ?v19) rfl (by kernel_rfl) (by kernel_rfl) (by kernel_rfl) (fun _ _ _ h => h) (by rfl) ?h19 (by assumption) ?_
  case h19 => intro w hSw; go_simp <;> with_reducible rfl
  simp only [Act.put, List.setIfInBounds_toArray, List.set_cons_zero, List.set_cons_succ]
  refine wpAnyH_takeL (i := 20) (v := ?v20) rfl (by kernel_rfl) (by kernel_rfl) (by kernel_rfl) (fun _ _ _ h => h) (by rfl) ?h20 (by assumption) ?_
  case h20 => intro w hSw; go_simp <;> with_reducible rfl
  simp only [Act.put, List.setIfInBounds_toArray, List.set_cons_zero, List.set_cons_succ]
  refine wpAnyH_takeL (i := 21) (v := ?v21) rfl (by kernel_rfl) (by kernel_rfl) (by kernel_rfl) (fun _ _ _ h => h) (by rfl) ?h21 (by assumption) ?_
  case h21 => intro w hSw; go_simp <;> with_reducible rfl
  simp only [Act.put, List.setIfInBounds_toArray, List.set_cons_zero, List.set_cons_succ]
  refine wpAnyH_takeL (i := 22) (v := ?v22) rfl (by kernel_rfl) (by kernel_rfl) (by kernel_rfl) (fun _ _ _ h => h) (by rfl) ?h22 (by assumption) ?_
  case h22 => intro w hSw; go_simp <;> with_reducible rfl
  simp only [Act.put, List.setIfInBounds_toArray, List.set_cons_zero, List.set_cons_succ]
  refine wpAnyH_takeL (i := 23) (v := ?v23) rfl (by kernel_rfl) (by kernel_rfl) (by kernel_rfl) (fun _ _ _ h => h) (by rfl) ?h23 (by assumption) ?_
  case h23 => intro w hSw; go_simp <;> with_reducible rfl
  simp only [Act.put, List.setIfInBounds_toArray, List.set_cons_zero, List.set_cons_succ]
  refine wpAnyH_takeL (i := 24) (v := ?v24) rfl (by kernel_rfl) (by kernel_rfl) (by kernel_rfl) (fun _ _ _ h => h) (by rfl) ?h24 (by assumption) ?_
  case h24 => intro w hSw; go_simp <;> with_reducible rfl
  simp only [Act.put, List.setIfInBounds_toArray, List.set_cons_zero, List.set_cons_succ]
  refine wpAnyH_takeL (i := 25) (v := ?v25) rfl (by kernel_rfl) (by kernel_rfl) (by kernel_rfl) (fun _ _ _ h => h) (by rfl) ?h25 (by assumption) ?_
  case h25 => intro w hSw; go_simp <;> with_reducible rfl
  simp only [Act.put, List.setIfInBounds_toArray, List.set_cons_zero, List.set_cons_succ]
  refine wpAnyH_takeL (i := 26) (v := ?v26) rfl (by kernel_rfl) (by kernel_rfl) (by kernel_rfl) (fun _ _ _ h => h) (by rfl) ?h26 (by assumption) ?_
  case h26 => intro w hSw; go_simp <;> with_reducible rfl
  simp only [Act.put, List.setIfInBounds_toArray, List.set_cons_zero, List.set_cons_succ]
  refine wpAnyH_takeL (i := 27) (v := ?v27) rfl (by kernel_rfl) (by kernel_rfl) (by kernel_rfl) (fun _ _ _ h => h) (by rfl) ?h27 (by assumption) ?_
  case h27 => intro w hSw; go_simp <;> with_reducible rfl
  simp only [Act.put, List.setIfInBounds_toArray, List.set_cons_zero, List.set_cons_succ]
  refine wpAnyH_takeL (i := 28) (v := ?v28) rfl (by kernel_rfl) (by kernel_rfl) (by kernel_rfl) (fun _ _ _ h => h) (by rfl) ?h28 (by assumption) ?_
  case h28 => intro w hSw; go_simp <;> with_reducible rfl
  simp only [Act.put, List.setIfInBounds_toArray, List.set_cons_zero, List.set_cons_succ]
  refine wpAnyH_takeL (i := 29) (v := ?v29) rfl (by kernel_rfl) (by kernel_rfl) (by kernel_rfl) (fun _ _ _ h => h) (by rfl) ?h29 (by assumption) ?_
  case h29 => intro w hSw; go_simp <;> with_reducible rfl
  simp only [Act.put, List.setIfInBounds_toArray, List.set_cons_zero, List.set_cons_succ]
  refine wpAnyH_takeL (i := 30) (v := ?v30) rfl (by kernel_rfl) (by kernel_rfl) (by kernel_rfl) (fun _ _ _ h => h) (by rfl) ?h30 (by assumption) ?_
  case h30 => intro w hSw; go_simp <;> with_reducible rfl
  simp only [Act.put, List.setIfInBounds_toArray, List.set_cons_zero, List.set_cons_succ]
  refine wpAnyH_done (by kernel_rfl) ?_ _
  refine NoPanic.normal ?_
  go_wp2
  go_ret
  exact ⟨rfl, hL7⟩

set_option maxRecDepth 100000 in
theorem lifted (os : Os) (started : os.Started) (H : Type) (enc : TypeId × Value → H) :
    ReturnsInHanded {} Tryd.checked os 4 .any (fun w args => (Rows.sha512BlockSpec.pre enc Tryd.prog Tryd.f4 [] false w args ∧ laidMetH Tryd.prog S3.laid1 w) ∧ sizedMet enc Tryd.prog Tryd.f4 (OpenSpec.ofChange Rows.sha512BlockSpec) false w args) (Rows.sha512BlockSpec.post enc Tryd.prog Tryd.f4 false true false false) := by
  refine returnsInHanded_of_change_and (C := Tryd.checked) (X := fun w _ => laidMetH Tryd.prog S3.laid1 w) (fun _ _ _ hh h => h.of_heap hh) own started (by kernel_rfl) Tryd.func4
    (ChangeSpec.witness_shaped (enc := enc) (C := Tryd.checked) (os := os) (X := fun w _ => laidMetH Tryd.prog S3.laid1 w) false (World.doorLaid Tryd.prog 400 os) #[.agg (C .u64 (Z 8)).toArray, .agg (C .u8 (Z 128)).toArray, .int .i64 0] 8 rfl (World.shaped_of_RefB (by kernel_rfl) (by kernel_rfl)) (by kernel_rfl) (by kernel_rfl) (by kernel_rfl) (S3.door_met os _)) ?_
  intro W base args ds gs before hval0 hW _ _ hLd _
  have hval : ∀ (j : Nat) t v, Tryd.f4.params[j]? = some t → args[j]? = some v → Value.okWide Tryd.prog W .any base t v := hval0
  have hW' := hW
  obtain ⟨p, q, hA0, hV, rfl, hfz, hnd⟩ := hW
  have hA : DataW.TrodAll enc Tryd.prog W 0 (fun _ => true) true Tryd.f4.params.toList args.toList ds p := hA0
  rw [Tryd.params4] at hA hval
  obtain ⟨v0, vs0, d0, ds0, p0, q0, hargs, rfl, rfl, h0, r0⟩ := trodAll_cons hA
  obtain ⟨v1, vs1, d1, ds1, p1, q1, rfl, rfl, rfl, h1, r1⟩ := trodAll_cons r0
  obtain ⟨v2, vs2, d2, ds2, p2, q2, rfl, rfl, rfl, h2, r2⟩ := trodAll_cons r1
  obtain ⟨rfl, rfl, rfl⟩ := trodAll_nil r2
  obtain rfl : args = #[v0, v1, v2] := by cases args; simp_all
  obtain ⟨rfl, rfl⟩ := trodVars_none hV
  have k0 := h0
  have lt0 : ∀ x ∈ p0, x.block < W.heap.size := by obtain ⟨m, hm⟩ := k0; exact DataW.trod_lt m _ _ _ hm
  have k1 := h1
  have lt1 : ∀ x ∈ p1, x.block < W.heap.size := by obtain ⟨m, hm⟩ := k1; exact DataW.trod_lt m _ _ _ hm
  have k2 := h2
  have lt2 : ∀ x ∈ p2, x.block < W.heap.size := by obtain ⟨m, hm⟩ := k2; exact DataW.trod_lt m _ _ _ hm
  obtain ⟨z0, rfl, hl0, hz0⟩ := open_array Tryd.underlying31 Tryd.underlying30 (by kernel_rfl) (by kernel_rfl) (hval 0 31 v0 rfl rfl) h0
  obtain ⟨z1, rfl, hl1, hz1⟩ := open_array Tryd.underlying32 Tryd.underlying5 (by kernel_rfl) (by kernel_rfl) (hval 1 32 v1 rfl rfl) h1
  obtain ⟨a2, rfl⟩ : ∃ z : Int, v2 = .int .i64 z := by
    obtain ⟨a2, rfl, _, _, _⟩ := open_int Tryd.underlying3 (hval 2 3 v2 rfl rfl) h2
    exact ⟨a2, rfl⟩
  obtain ⟨x0, e0, l0, b0⟩ := S3.arr_words64 hz0
  obtain ⟨x1, e1, l1, b1⟩ := arr_bytes hz1
  rw [e0, e1] at hW' ⊢
  rw [e0] at k0
  rw [e1] at k1
  obtain ⟨s, hs, rfl⟩ := S3.eight_of b0 (l0.trans hl0)
  clear hA0 hval0
  refine (walk s hs x1 b1 (l1.trans hl1) a2 W (S3.of_laid hLd)).mono fun e W' ⟨he, bel⟩ => ?_
  subst he
  exact ⟨_, rfl, _, _, _, [], _, [], hW', trodAll_mk1 (shut_bool Tryd.underlying4 _), (trodAll_cons_mk (Below.trod laidOut (by kernel_rfl) (of_decide_eq_true (by kernel_rfl)) k0 bel lt0) (trodAll_cons_mk (Below.trod laidOut (by kernel_rfl) (of_decide_eq_true (by kernel_rfl)) k1 bel lt1) (trodAll_cons_mk (Below.trod laidOut (by kernel_rfl) (of_decide_eq_true (by kernel_rfl)) k2 bel lt2) trodAll_mk0))), rfl, bel.frame _, fun h => by cases h⟩

theorem over : Rows.sha512BlockRow.holds Tryd.pinned (OpenSpec.ofChange Rows.sha512BlockSpec) :=
  OpenClaim.holds_of_wide 4 Tryd.f4 rfl rfl rfl rfl rfl rfl rfl ⟨rfl, rfl, rfl, rfl, rfl⟩ rfl rfl rfl rfl rfl (by kernel_rfl) Tryd.func4 (by kernel_rfl)
    (of_decide_eq_true (by kernel_rfl)) (by unfold Func.isWrapper; first | (rw [if_pos (by decide +kernel)]; kernel_rfl) | (rw [if_neg (by decide +kernel)]; exact ⟨rfl, rfl⟩))
    (fun os started H enc _ => lifted os started H enc)

end Go.Proofs.YtniclmghkbdkbaaDoor.sha512Block
namespace Go.Proofs.YtniclmghkbdkbaaDoor
/-- The given statement. -/
theorem sha512Block_proved : Rows.Sha512BlockCardSaid :=
  Claim7.holds_tied_plain_at .later [] [.data] true (true, "811edfb1be13716fa3f6f04c4fb46979b36beed6323c6561f9e0df8f7ac8aa31") false
    sha512Block.over (fun _ h => by cases h) (by kernel_rfl) (fun _ h => by cases h) sha512Block_row_tie rfl ⟨rfl, rfl⟩ (by kernel_rfl) rfl
    (fun f fn hf hfn => by
      obtain rfl : f = 4 := Option.some.inj ((show Tryd.prog.funcNamed "affiant/affiantlaw08.Sha512Block" = some 4 by kernel_rfl).symm.trans hf) |>.symm
      obtain rfl : fn = Tryd.f4 := (Option.some.inj (Tryd.func4.symm.trans hfn)).symm
      exact ⟨by kernel_rfl, fun j t ht => by
        rw [Tryd.params4] at ht
        have hm : t ∈ ([31, 32, 3] : List TypeId) := by simpa using Array.mem_of_getElem? ht
        have hall : (([31, 32, 3] : List TypeId).all fun u => !Tryd.prog.wantsStandIn u) = true := by kernel_rfl
        exact (show Tryd.prog.wantsStandIn t = false by simpa using List.all_eq_true.1 hall t hm)⟩)
    (by kernel_rfl)
end Go.Proofs.YtniclmghkbdkbaaDoor
