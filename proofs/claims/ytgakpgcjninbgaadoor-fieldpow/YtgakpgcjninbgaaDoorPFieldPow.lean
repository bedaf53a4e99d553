/-
  Proved: for every two arrays a, n of four 64-bit words the law FieldPow returns true, and its arguments read as before. No conditions of ours; the package's variables start as their initialisers lay them, as the given card ties them.
-/
import Derived.Test.YtgakpgcjninbgaaDoorRows
import Derived.Test.YtgakpgcjninbgaaDoorCards
import Derived.Test.YtgakpgcjninbgaaDoorTie
import Derived.SevenTiedAt
import Derived.Test.YtgakpgcjninbgaaDoorLay11
import Derived.WalkKit
import Derived.ProofKit
import Derived.OpenShut
import Derived.ShutString
import Derived.ChangeOld
import Derived.Below
namespace Go.Proofs.YtgakpgcjninbgaaDoor.fieldPow
open Go.ChangeShapes Go.WideShapes Go.ChangeAt Go.RowKit
open F
set_option linter.unusedVariables false
set_option maxRecDepth 10000

theorem own : ownKnob Tryd.prog.godebug = none := by kernel_rfl
theorem laidOut : laidOutB Tryd.prog = true := by kernel_rfl

set_option maxHeartbeats 8000000 in
theorem walk (A : Nat) (hA : A < 115792089237316195423570985008687907853269984665640564039457584007913129639936) (B : Nat) (hB : B < 115792089237316195423570985008687907853269984665640564039457584007913129639936) (w : World) (hT : Tabs w) (hV : Glob w 3 (P - 2)) : Calls Tryd.prog 5 #[.agg (C .u64 (wds A)).toArray, .agg (C .u64 (wds B)).toArray] w fun e w' => e = .returned (.bool true) ∧ Below w.heap.size w w' := by
  obtain ⟨w2, h2, r1, r2, hL, hS⟩ := rows2 w 24 24 (C .u64 (wds A)) (C .u64 (wds B))
  have c1 := froot_el A hA
  have c2 := frefroot_el A hA
  have c3 := fpow_el A B hA hB
  have c4 := frefpow_el A B hA hB
  have c5 := finv_el A hA
  have c6 := frefinv_el A hA
  have lq := rt_lt A
  obtain ⟨q, hq⟩ : ∃ q, (rt A).1 = q := ⟨_, rfl⟩
  obtain ⟨ok, hok⟩ : ∃ ok, (rt A).2 = ok := ⟨_, rfl⟩
  rw [hq] at lq c1 c2
  rw [hok] at c1 c2
  clear hq hok
  have sq := same4 q lq
  obtain ⟨R1, hR1⟩ : ∃ x, A ^ B % P = x := ⟨_, rfl⟩
  have lR1 : R1 < 115792089237316195423570985008687907853269984665640564039457584007913129639936 := by rw [← hR1]; exact mod_lt_T _
  have sR1 := same4 R1 lR1
  rw [hR1] at c3 c4
  clear hR1
  obtain ⟨R2, hR2⟩ : ∃ x, A ^ (P - 2) % P = x := ⟨_, rfl⟩
  have lR2 : R2 < 115792089237316195423570985008687907853269984665640564039457584007913129639936 := by rw [← hR2]; exact mod_lt_T _
  have sR2 := same4 R2 lR2
  rw [hR2] at c5 c6
  clear hR2
  go_enter Tryd.func5, Tryd.ntmps5
  go_upto_region 1 with fail
  try simp only [Act.put, List.setIfInBounds_toArray, List.set_cons_zero, List.set_cons_succ, alloc_size, h2]
  clear h2
  go_wp2_with (refine wpList_load_row rfl 24 _ rfl _ rfl _ _ _ _ r1 Tryd.underlying24 rfl (ie4 A) ?_)
  refine (c1 _ (hT.below hL)).mono ?_
  rintro _ wn ⟨rfl, hb⟩
  replace r1 := r1.belowS hb
  replace r2 := r2.belowS hb
  replace hL := hL.trans (hb.mono hL.size)
  clear hb
  have q0 := Row.new wn 24 (C .u64 (Z 4))
  have nr1 := r1.lt
  replace r1 := r1.alloc (.cells (C .u64 (Z 4)).toArray 24)
  have nr2 := r2.lt
  replace r2 := r2.alloc (.cells (C .u64 (Z 4)).toArray 24)
  replace hL := hL.alloc hL.size (.cells (C .u64 (Z 4)).toArray 24)
  generalize hg : wn.heap.size = g1 at *
  go_upto_region 2 with (first | refine wpList_alloc_row rfl 24 rfl _ z4 ?_ | (refine wpList_store_R rfl 24 _ _ rfl _ (C .u64 (wds q)) (by rw [← hg]; rfl) rfl q0 (ie4 _) (ze4 _) (C_allL _ _) ?_; intro w5 q1 hg5 hz5))
  replace r1 := r1.grown hg5 (by simp; omega)
  replace r2 := r2.grown hg5 (by simp; omega)
  replace hL := below_grown hL hg5 (by omega) q0.lt
  try rw [hg]
  clear q0 hg5 hz5 hg
  try simp only [Act.put, List.setIfInBounds_toArray, List.set_cons_zero, List.set_cons_succ]
  go_wp2_with (refine wpList_load_row rfl 24 _ rfl _ rfl _ _ _ _ r1 Tryd.underlying24 rfl (ie4 A) ?_)
  refine (c2 _).mono ?_
  rintro _ wn ⟨rfl, hb⟩
  replace r1 := r1.belowS hb
  replace r2 := r2.belowS hb
  replace q1 := q1.belowS hb
  replace hL := hL.trans (hb.mono hL.size)
  clear hb
  have q0 := Row.new wn 24 (C .u64 (Z 4))
  have nr1 := r1.lt
  replace r1 := r1.alloc (.cells (C .u64 (Z 4)).toArray 24)
  have nr2 := r2.lt
  replace r2 := r2.alloc (.cells (C .u64 (Z 4)).toArray 24)
  have nq1 := q1.lt
  replace q1 := q1.alloc (.cells (C .u64 (Z 4)).toArray 24)
  replace hL := hL.alloc hL.size (.cells (C .u64 (Z 4)).toArray 24)
  generalize hg : wn.heap.size = g2 at *
  go_upto_region 3 with (first | refine wpList_alloc_row rfl 24 rfl _ z4 ?_ | (refine wpList_store_R rfl 24 _ _ rfl _ (C .u64 (wds q)) (by rw [← hg]; rfl) rfl q0 (ie4 _) (ze4 _) (C_allL _ _) ?_; intro w5 q2 hg5 hz5))
  replace r1 := r1.grown hg5 (by simp; omega)
  replace r2 := r2.grown hg5 (by simp; omega)
  replace q1 := q1.grown hg5 (by simp; omega)
  replace hL := below_grown hL hg5 (by omega) q0.lt
  try rw [hg]
  clear q0 hg5 hz5 hg
  try simp only [Act.put, List.setIfInBounds_toArray, List.set_cons_zero, List.set_cons_succ]
  replace r1 := r1.drew
  replace r2 := r2.drew
  replace q1 := q1.drew
  replace q2 := q2.drew
  replace hL := below_drawn hL
  refine wp_region_noPanic ?_
  refine wp_region_held_drew (S := fun w' => Row w' w.heap.size 24 (C .u64 (wds A)) ∧ Row w' (w.heap.size + 1) 24 (C .u64 (wds B)) ∧ Row w' g1 24 (C .u64 (wds q)) ∧ Row w' g2 24 (C .u64 (wds q))) (by kernel_rfl) ⟨r1, r2, q1, q2⟩ (fun hHeld => ?_)
  refine allReadyH_oneL (i := 0) (by kernel_rfl) rfl (by rfl) (fun K hK => ?_)
  go_simp
  refine (alive11_true _ (hT.below hL)).mono ?_
  rintro _ wn ⟨rfl, hb⟩
  replace r1 := r1.belowS hb
  replace r2 := r2.belowS hb
  replace q1 := q1.belowS hb
  replace q2 := q2.belowS hb
  replace hL := hL.trans (hb.mono hL.size)
  clear hb
  refine hK.out _ _ ⟨r1, r2, q1, q2⟩ (fun hHeld => ?_)
  clear hK K
  refine wpAnyH_takeL (i := 1) (v := ?v1) rfl (by kernel_rfl) (by kernel_rfl) (by kernel_rfl) (fun _ _ _ h => h) (by rfl) ?h1 (by assumption) ?_
  case h1 => intro w hSw; go_simp <;> with_reducible rfl
  simp only [Act.put, List.setIfInBounds_toArray, List.set_cons_zero, List.set_cons_succ]
  refine wpAnyH_takeL (i := 2) (v := (.agg (C .u64 (wds A)).toArray)) rfl (by kernel_rfl) (by kernel_rfl) (by kernel_rfl) (fun _ _ _ h => h) (by rfl) ?h2 (by assumption) ?_
  case h2 => intro w hSw; exact exec_load_R 24 _ rfl rfl hSw.1 Tryd.underlying24 (ie4 A)
  simp only [Act.put, List.setIfInBounds_toArray, List.set_cons_zero, List.set_cons_succ]
  refine wpAnyH_takeL (i := 3) (v := (.agg (C .u64 (wds B)).toArray)) rfl (by kernel_rfl) (by kernel_rfl) (by kernel_rfl) (fun _ _ _ h => h) (by rfl) ?h3 (by assumption) ?_
  case h3 => intro w hSw; exact exec_load_R 24 _ rfl rfl hSw.2.1 Tryd.underlying24 (ie4 B)
  simp only [Act.put, List.setIfInBounds_toArray, List.set_cons_zero, List.set_cons_succ]
  refine wpAnyH_takeL (i := 5) (v := (.agg (C .u64 (wds A)).toArray)) rfl (by kernel_rfl) (by kernel_rfl) (by kernel_rfl) (fun _ _ _ h => h) (by rfl) ?h5 (by assumption) ?_
  case h5 => intro w hSw; exact exec_load_R 24 _ rfl rfl hSw.1 Tryd.underlying24 (ie4 A)
  simp only [Act.put, List.setIfInBounds_toArray, List.set_cons_zero, List.set_cons_succ]
  refine wpAnyH_takeL (i := 6) (v := (.agg (C .u64 (wds B)).toArray)) rfl (by kernel_rfl) (by kernel_rfl) (by kernel_rfl) (fun _ _ _ h => h) (by rfl) ?h6 (by assumption) ?_
  case h6 => intro w hSw; exact exec_load_R 24 _ rfl rfl hSw.2.1 Tryd.underlying24 (ie4 B)
  simp only [Act.put, List.setIfInBounds_toArray, List.set_cons_zero, List.set_cons_succ]
  refine allReadyH_oneL (i := 4) (by kernel_rfl) rfl (by rfl) (fun K hK => ?_)
  go_simp
  refine (c3 _ (hT.below hL).p).mono ?_
  rintro _ wn ⟨rfl, hb⟩
  replace r1 := r1.belowS hb
  replace r2 := r2.belowS hb
  replace q1 := q1.belowS hb
  replace q2 := q2.belowS hb
  replace hL := hL.trans (hb.mono hL.size)
  clear hb
  refine hK.out _ _ ⟨r1, r2, q1, q2⟩ (fun hHeld => ?_)
  clear hK K
  refine allReadyH_oneL (i := 7) (by kernel_rfl) rfl (by rfl) (fun K hK => ?_)
  go_simp
  refine (c4 _).mono ?_
  rintro _ wn ⟨rfl, hb⟩
  replace r1 := r1.belowS hb
  replace r2 := r2.belowS hb
  replace q1 := q1.belowS hb
  replace q2 := q2.belowS hb
  replace hL := hL.trans (hb.mono hL.size)
  clear hb
  refine hK.out _ _ ⟨r1, r2, q1, q2⟩ (fun hHeld => ?_)
  clear hK K
  refine wpAnyH_takeL (i := 8) (v := ?v8) rfl (by kernel_rfl) (by kernel_rfl) (by kernel_rfl) (fun _ _ _ h => h) (by rfl) ?h8 (by assumption) ?_
  case h8 => intro w hSw; go_simp <;> with_reducible rfl
  simp only [Act.put, List.setIfInBounds_toArray, List.set_cons_zero, List.set_cons_succ]
  refine wpAnyH_takeL (i := 9) (v := ?v9) rfl (by kernel_rfl) (by kernel_rfl) (by kernel_rfl) (fun _ _ _ h => h) (by rfl) ?h9 (by assumption) ?_
  case h9 => intro w hSw; go_simp <;> with_reducible rfl
  simp only [Act.put, List.setIfInBounds_toArray, List.set_cons_zero, List.set_cons_succ]
  refine wpAnyH_takeL (i := 10) (v := ?v10) rfl (by kernel_rfl) (by kernel_rfl) (by kernel_rfl) (fun _ _ _ h => h) (by rfl) ?h10 (by assumption) ?_
  case h10 => intro w hSw; go_simp <;> with_reducible rfl
  simp only [Act.put, List.setIfInBounds_toArray, List.set_cons_zero, List.set_cons_succ]
  refine wpAnyH_takeL (i := 11) (v := (.agg (C .u64 (wds A)).toArray)) rfl (by kernel_rfl) (by kernel_rfl) (by kernel_rfl) (fun _ _ _ h => h) (by rfl) ?h11 (by assumption) ?_
  case h11 => intro w hSw; exact exec_load_R 24 _ rfl rfl hSw.1 Tryd.underlying24 (ie4 A)
  simp only [Act.put, List.setIfInBounds_toArray, List.set_cons_zero, List.set_cons_succ]
  refine wpAnyH_takeL (i := 13) (v := (.agg (C .u64 (wds A)).toArray)) rfl (by kernel_rfl) (by kernel_rfl) (by kernel_rfl) (fun _ _ _ h => h) (by rfl) ?h13 (by assumption) ?_
  case h13 => intro w hSw; exact exec_load_R 24 _ rfl rfl hSw.1 Tryd.underlying24 (ie4 A)
  simp only [Act.put, List.setIfInBounds_toArray, List.set_cons_zero, List.set_cons_succ]
  refine allReadyH_oneL (i := 12) (by kernel_rfl) rfl (by rfl) (fun K hK => ?_)
  go_simp
  refine (c5 _ (hT.below hL).p (hV.below hL)).mono ?_
  rintro _ wn ⟨rfl, hb⟩
  replace r1 := r1.belowS hb
  replace r2 := r2.belowS hb
  replace q1 := q1.belowS hb
  replace q2 := q2.belowS hb
  replace hL := hL.trans (hb.mono hL.size)
  clear hb
  refine hK.out _ _ ⟨r1, r2, q1, q2⟩ (fun hHeld => ?_)
  clear hK K
  refine allReadyH_oneL (i := 14) (by kernel_rfl) rfl (by rfl) (fun K hK => ?_)
  go_simp
  refine (c6 _).mono ?_
  rintro _ wn ⟨rfl, hb⟩
  replace r1 := r1.belowS hb
  replace r2 := r2.belowS hb
  replace q1 := q1.belowS hb
  replace q2 := q2.belowS hb
  replace hL := hL.trans (hb.mono hL.size)
  clear hb
  refine hK.out _ _ ⟨r1, r2, q1, q2⟩ (fun hHeld => ?_)
  clear hK K
  refine wpAnyH_takeL (i := 15) (v := ?v15) rfl (by kernel_rfl) (by kernel_rfl) (by kernel_rfl) (fun _ _ _ h => h) (by rfl) ?h15 (by assumption) ?_
  case h15 => intro w hSw; go_simp <;> with_reducible rfl
  simp only [Act.put, List.setIfInBounds_toArray, List.set_cons_zero, List.set_cons_succ]
  refine wpAnyH_takeL (i := 16) (v := ?v16) rfl (by kernel_rfl) (by kernel_rfl) (by kernel_rfl) (fun _ _ _ h => h) (by rfl) ?h16 (by assumption) ?_
  case h16 => intro w hSw; go_simp <;> with_reducible rfl
  simp only [Act.put, List.setIfInBounds_toArray, List.set_cons_zero, List.set_cons_succ]
  refine wpAnyH_takeL (i := 17) (v := ?v17) rfl (by kernel_rfl) (by kernel_rfl) (by kernel_rfl) (fun _ _ _ h => h) (by rfl) ?h17 (by assumption) ?_
  case h17 => intro w hSw; go_simp <;> with_reducible rfl
  simp only [Act.put, List.setIfInBounds_toArray, List.set_cons_zero, List.set_cons_succ]
  refine wpAnyH_takeL (i := 18) (v := (.agg (C .u64 (wds q)).toArray)) rfl (by kernel_rfl) (by kernel_rfl) (by kernel_rfl) (fun _ _ _ h => h) (by rfl) ?h18 (by assumption) ?_
  case h18 => intro w hSw; exact exec_load_R 24 _ rfl rfl hSw.2.2.1 Tryd.underlying24 (ie4 q)
  simp only [Act.put, List.setIfInBounds_toArray, List.set_cons_zero, List.set_cons_succ]
  refine wpAnyH_takeL (i := 19) (v := (.agg (C .u64 (wds q)).toArray)) rfl (by kernel_rfl) (by kernel_rfl) (by kernel_rfl) (fun _ _ _ h => h) (by rfl) ?h19 (by assumption) ?_
  case h19 => intro w hSw; exact exec_load_R 24 _ rfl rfl hSw.2.2.2 Tryd.underlying24 (ie4 q)
  simp only [Act.put, List.setIfInBounds_toArray, List.set_cons_zero, List.set_cons_succ]
  refine wpAnyH_takeL (i := 20) (v := ?v20) rfl (by kernel_rfl) (by kernel_rfl) (by kernel_rfl) (fun _ _ _ h => h) (by rfl) ?h20 (by assumption) ?_
  case h20 => intro w hSw; go_simp <;> with_reducible rfl
  simp only [Act.put, List.setIfInBounds_toArray, List.set_cons_zero, List.set_cons_succ]
  refine wpAnyH_takeL (i := 21) (v := ?v21) rfl (by kernel_rfl) (by kernel_rfl) (by kernel_rfl) (fun _ _ _ h => h) (by rfl) ?h21 (by assumption) ?_
  case h21 => intro w hSw; go_simp <;> with_reducible rfl
  simp only [Act.put, List.setIfInBounds_toArray, List.set_cons_zero, List.set_cons_succ]
  refine wpAnyH_takeL (i := 22) (v := ?v22) rfl (by kernel_rfl) (by kernel_rfl) (by kernel_rfl) (fun _ _ _ h => h) (by rfl) ?h22 (by assumption) ?_
  case h22 => intro w hSw; go_simp <;> with_reducible rfl
  simp only [Act.put, List.setIfInBounds_toArray, List.set_cons_zero, List.set_cons_succ]
  refine wpAnyH_takeL (i := 23) (v := ?v23) rfl (by kernel_rfl) (by kernel_rfl) (by kernel_rfl) (fun _ _ _ h => h) (by rfl) ?h23 (by assumption) ?_
  case h23 => intro w hSw; go_simp <;> with_reducible rfl
  simp only [Act.put, List.setIfInBounds_toArray, List.set_cons_zero, List.set_cons_succ]
  refine wpAnyH_takeL (i := 24) (v := ?v24) rfl (by kernel_rfl) (by kernel_rfl) (by kernel_rfl) (fun _ _ _ h => h) (by rfl) ?h24 (by assumption) ?_
  case h24 => intro w hSw; go_simp <;> with_reducible rfl
  simp only [Act.put, List.setIfInBounds_toArray, List.set_cons_zero, List.set_cons_succ]
  refine wpAnyH_takeL (i := 25) (v := ?v25) rfl (by kernel_rfl) (by kernel_rfl) (by kernel_rfl) (fun _ _ _ h => h) (by rfl) ?h25 (by assumption) ?_
  case h25 => intro w hSw; go_simp <;> with_reducible rfl
  simp only [Act.put, List.setIfInBounds_toArray, List.set_cons_zero, List.set_cons_succ]
  refine wpAnyH_takeL (i := 26) (v := ?v26) rfl (by kernel_rfl) (by kernel_rfl) (by kernel_rfl) (fun _ _ _ h => h) (by rfl) ?h26 (by assumption) ?_
  case h26 => intro w hSw; go_simp <;> with_reducible rfl
  simp only [Act.put, List.setIfInBounds_toArray, List.set_cons_zero, List.set_cons_succ]
  refine wpAnyH_takeL (i := 27) (v := ?v27) rfl (by kernel_rfl) (by kernel_rfl) (by kernel_rfl) (fun _ _ _ h => h) (by rfl) ?h27 (by assumption) ?_
  case h27 => intro w hSw; go_simp <;> with_reducible rfl
  simp only [Act.put, List.setIfInBounds_toArray, List.set_cons_zero, List.set_cons_succ]
  refine wpAnyH_done (by kernel_rfl) ?_ _
  refine NoPanic.normal ?_
  go_wp2
  go_ret
  exact ⟨rfl, hL⟩

set_option maxRecDepth 100000 in
theorem lifted (os : Os) (started : os.Started) (H : Type) (enc : TypeId × Value → H) :
    ReturnsInHanded {} Tryd.checked os 5 .any (fun w args => (Rows.fieldPowSpec.pre enc Tryd.prog Tryd.f5 [] false w args ∧ laidMetH Tryd.prog FV.laid1 w) ∧ sizedMet enc Tryd.prog Tryd.f5 (OpenSpec.ofChange Rows.fieldPowSpec) false w args) (Rows.fieldPowSpec.post enc Tryd.prog Tryd.f5 false true false false) := by
  refine returnsInHanded_of_change_and (C := Tryd.checked) (X := fun w _ => laidMetH Tryd.prog FV.laid1 w) (fun _ _ _ hh h => h.of_heap hh) own started (by kernel_rfl) Tryd.func5
    (ChangeSpec.witness_shaped (enc := enc) (C := Tryd.checked) (os := os) (X := fun w _ => laidMetH Tryd.prog FV.laid1 w) false (World.doorLaid Tryd.prog 400 os) #[.agg (C .u64 (Z 4)).toArray, .agg (C .u64 (Z 4)).toArray] 8 rfl (World.shaped_of_RefB (by kernel_rfl) (by kernel_rfl)) (by kernel_rfl) (by kernel_rfl) (by kernel_rfl) (FV.door_met os _)) ?_
  intro W base args ds gs before hval0 hW _ _ hLd _
  have hval : ∀ (j : Nat) t v, Tryd.f5.params[j]? = some t → args[j]? = some v → Value.okWide Tryd.prog W .any base t v := hval0
  have hW' := hW
  obtain ⟨p, q, hA0, hV, rfl, hfz, hnd⟩ := hW
  have hA : DataW.TrodAll enc Tryd.prog W 0 (fun _ => true) true Tryd.f5.params.toList args.toList ds p := hA0
  rw [Tryd.params5] at hA hval
  obtain ⟨v0, vs0, d0, ds0, p0, q0, hargs, rfl, rfl, h0, r0⟩ := trodAll_cons hA
  obtain ⟨v1, vs1, d1, ds1, p1, q1, rfl, rfl, rfl, h1, r1⟩ := trodAll_cons r0
  obtain ⟨rfl, rfl, rfl⟩ := trodAll_nil r1
  obtain rfl : args = #[v0, v1] := by cases args; simp_all
  obtain ⟨rfl, rfl⟩ := trodVars_none hV
  have k0 := h0
  have lt0 : ∀ x ∈ p0, x.block < W.heap.size := by obtain ⟨m, hm⟩ := k0; exact DataW.trod_lt m _ _ _ hm
  have k1 := h1
  have lt1 : ∀ x ∈ p1, x.block < W.heap.size := by obtain ⟨m, hm⟩ := k1; exact DataW.trod_lt m _ _ _ hm
  obtain ⟨z0, rfl, hl0, hz0⟩ := open_array Tryd.underlying24 Tryd.underlying22 (by kernel_rfl) (by kernel_rfl) (hval 0 24 v0 rfl rfl) h0
  obtain ⟨z1, rfl, hl1, hz1⟩ := open_array Tryd.underlying24 Tryd.underlying22 (by kernel_rfl) (by kernel_rfl) (hval 1 24 v1 rfl rfl) h1
  obtain ⟨n0, b0, e0⟩ := elem_of hl0 hz0
  obtain ⟨n1, b1, e1⟩ := elem_of hl1 hz1
  rw [e0, e1] at hW' ⊢
  rw [e0] at k0
  rw [e1] at k1
  clear hA0 hval0
  refine (walk n0 b0 n1 b1 W (FV.of_laid hLd).1 (FV.of_laid hLd).2).mono fun e W' ⟨he, bel⟩ => ?_
  subst he
  exact ⟨_, rfl, _, _, _, [], _, [], hW', trodAll_mk1 (shut_bool Tryd.underlying4 _), (trodAll_cons_mk (Below.trod laidOut (by kernel_rfl) (of_decide_eq_true (by kernel_rfl)) k0 bel lt0) (trodAll_cons_mk (Below.trod laidOut (by kernel_rfl) (of_decide_eq_true (by kernel_rfl)) k1 bel lt1) trodAll_mk0)), rfl, bel.frame _, fun h => by cases h⟩

theorem over : Rows.fieldPowRow.holds Tryd.pinned (OpenSpec.ofChange Rows.fieldPowSpec) :=
  OpenClaim.holds_of_wide 5 Tryd.f5 rfl rfl rfl rfl rfl rfl rfl ⟨rfl, rfl, rfl, rfl, rfl⟩ rfl rfl rfl rfl rfl (by kernel_rfl) Tryd.func5 (by kernel_rfl)
    (of_decide_eq_true (by kernel_rfl)) (by unfold Func.isWrapper; first | (rw [if_pos (by decide +kernel)]; kernel_rfl) | (rw [if_neg (by decide +kernel)]; exact ⟨rfl, rfl⟩))
    (fun os started H enc _ => lifted os started H enc)

end Go.Proofs.YtgakpgcjninbgaaDoor.fieldPow
namespace Go.Proofs.YtgakpgcjninbgaaDoor
/-- The given statement. -/
theorem fieldPow_proved : Rows.FieldPowCardSaid :=
  Claim7.holds_tied_plain_at .later [] [.data, .data, .data, .data] true (true, "15914531b4b6fb3f3d60b7b50461ce0ba9c53d0e9a41c1244df8851fa1204d2c") false
    fieldPow.over (fun _ h => by cases h) (by kernel_rfl) (fun _ h => by cases h) fieldPow_row_tie rfl ⟨rfl, rfl⟩ (by kernel_rfl) rfl
    (fun f fn hf hfn => by
      obtain rfl : f = 5 := Option.some.inj ((show Tryd.prog.funcNamed "affiant/affiantlaw11.FieldPow" = some 5 by kernel_rfl).symm.trans hf) |>.symm
      obtain rfl : fn = Tryd.f5 := (Option.some.inj (Tryd.func5.symm.trans hfn)).symm
      exact ⟨by kernel_rfl, fun j t ht => by
        rw [Tryd.params5] at ht
        have hm : t ∈ ([24, 24] : List TypeId) := by simpa using Array.mem_of_getElem? ht
        have hall : (([24, 24] : List TypeId).all fun u => !Tryd.prog.wantsStandIn u) = true := by kernel_rfl
        exact (show Tryd.prog.wantsStandIn t = false by simpa using List.all_eq_true.1 hall t hm)⟩)
    (by kernel_rfl)
end Go.Proofs.YtgakpgcjninbgaaDoor
