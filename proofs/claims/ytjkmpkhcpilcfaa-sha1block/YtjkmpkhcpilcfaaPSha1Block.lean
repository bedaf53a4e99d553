/-
  Proved: for every five 32-bit numbers h and every block b of 64 bytes the law Sha1Block returns true, and its arguments read as before. No conditions.
-/
import Derived.Test.YtjkmpkhcpilcfaaRows
import Derived.Test.YtjkmpkhcpilcfaaLawS
import Derived.Test.YtjkmpkhcpilcfaaRefT
import Derived.WalkKit
import Derived.ProofKit
import Derived.OpenShut
import Derived.ShutString
import Derived.ChangeOld
import Derived.Below
namespace Go.Proofs.Ytjkmpkhcpilcfaa.sha1Block
open Go.ChangeShapes Go.WideShapes Go.ChangeAt Go.RowKit
open Go.ChangeMaps (open_string shut_string)
set_option linter.unusedVariables false

theorem own : ownKnob Try.prog.godebug = none := by kernel_rfl
theorem laidOut : laidOutB Try.prog = true := by kernel_rfl

set_option maxHeartbeats 800000 in
/-- The walk: the law returns true and writes nothing that was there. -/
theorem walk (s : S1.S5) (hs : s.ok) (b : List Nat) (hb : Lo 256 b) (hl : b.length = 64) (w : World) :
    Calls Try.prog 4 #[.agg (C .u32 s.list).toArray, .agg (C .u8 b).toArray] w fun e w' => e = .returned (.bool true) ∧ Below w.heap.size w w' := by
  have hA0 := (Row.new w 28 (C .u32 s.list)).alloc (.cells (C .u8 b).toArray 29)
  have hB0 := Row.newAt (w.alloc (.cells (C .u32 s.list).toArray 28)) (w.heap.size + 1) (by simp) 29 (C .u8 b)
  have hL' := Below.more (Below.refl w.heap.size w) (Nat.le_refl _) (.cells (C .u32 s.list).toArray 28)
  have hL0 := (Below.more hL'.1 hL'.2 (.cells (C .u8 b).toArray 29)).1
  clear hL'
  have hl64 : (Try.prog.info? 29).map (·.size) = some (C .u8 b).length := by rw [C_length, hl]; exact S1.i64
  have hsl : ∀ {x : World}, Row x (w.heap.size + 1) 29 (C .u8 b) → SlV x (.slice (some ⟨w.heap.size + 1, 0, none⟩) 64 64) (C .u8 b) := fun h => by
    have := h.slAll (by rw [C_length, hl]; unfold maxLen; omega)
    rwa [C_length, hl] at this
  obtain ⟨T, hT⟩ : ∃ T, S1.blk1 s b = T := ⟨_, rfl⟩
  have HT := Away.mk hT
  obtain ⟨U, hU⟩ : ∃ U, S1.start1 = U := ⟨_, rfl⟩
  have HU := Away.mk hU
  clear hT hU
  have he1 := fun w => S1.eq5 w T.list T.list rfl rfl
  have he2 := fun w => S1.eq5 w U.list U.list rfl rfl
  simp only [decide_true] at he1 he2
  go_enter Try.func4, Try.ntmps4
  go_upto_region 1 with fail
  generalize (w.alloc (.cells (C .u32 s.list).toArray 28)).alloc (.cells (C .u8 b).toArray 29) = w0 at *
  replace hA0 := hA0.drew
  replace hB0 := hB0.drew
  replace hL0 := hL0.drew
  refine wp_region_noPanic ?_
  refine wp_region_held_drew (S := fun w' => Row w' w.heap.size 28 (C .u32 s.list) ∧ Row w' (w.heap.size + 1) 29 (C .u8 b)) (by kernel_rfl) (⟨hA0, hB0⟩) (fun hHeld => ?_)
  refine allReadyH_oneL (i := 0) (by kernel_rfl) rfl (by rfl) (fun K hK => ?_)
  go_simp
  refine (S1.alive6_true _).mono ?_
  rintro _ w1 ⟨rfl, hb1⟩
  have hA1 := hA0.belowS hb1
  have hB1 := hB0.belowS hb1
  have hL1 := hL0.trans (hb1.mono hL0.size)
  clear hA0 hB0 hL0 hb1
  refine hK.out _ _ (⟨hA1, hB1⟩) (fun hHeld => ?_)
  clear hK K
  refine wpAnyH_takeL (i := 1) (v := ?v1) rfl (by kernel_rfl) (by kernel_rfl) (by kernel_rfl) (fun _ _ _ h => h) (by rfl) ?h1 (by assumption) ?_
  case h1 => intro w hSw; go_simp <;> with_reducible rfl
  simp only [Act.put, List.setIfInBounds_toArray, List.set_cons_zero, List.set_cons_succ]
  refine wpAnyH_takeL (i := 2) (v := (.agg (C .u32 s.list).toArray)) rfl (by kernel_rfl) (by kernel_rfl) (by kernel_rfl) (fun _ _ _ h => h) (by rfl) ?h2 (by assumption) ?_
  case h2 => intro w hSw; exact exec_load_R 28 _ rfl rfl hSw.1 Try.underlying28 S1.i5
  simp only [Act.put, List.setIfInBounds_toArray, List.set_cons_zero, List.set_cons_succ]
  refine wpAnyH_takeL (i := 3) (v := (.agg (C .u8 b).toArray)) rfl (by kernel_rfl) (by kernel_rfl) (by kernel_rfl) (fun _ _ _ h => h) (by rfl) ?h3 (by assumption) ?_
  case h3 => intro w hSw; exact exec_load_R 29 _ rfl rfl hSw.2 Try.underlying29 hl64
  simp only [Act.put, List.setIfInBounds_toArray, List.set_cons_zero, List.set_cons_succ]
  refine wpAnyH_takeL (i := 5) (v := (.agg (C .u32 s.list).toArray)) rfl (by kernel_rfl) (by kernel_rfl) (by kernel_rfl) (fun _ _ _ h => h) (by rfl) ?h5 (by assumption) ?_
  case h5 => intro w hSw; exact exec_load_R 28 _ rfl rfl hSw.1 Try.underlying28 S1.i5
  simp only [Act.put, List.setIfInBounds_toArray, List.set_cons_zero, List.set_cons_succ]
  refine wpAnyH_takeL (i := 6) (v := ?v6) rfl (by kernel_rfl) (by kernel_rfl) (by kernel_rfl) (fun _ _ _ h => h) (by rfl) ?h6 (by assumption) ?_
  case h6 => intro w hSw; go_simp <;> with_reducible rfl
  simp only [Act.put, List.setIfInBounds_toArray, List.set_cons_zero, List.set_cons_succ]
  refine allReadyH_oneL (i := 4) (by kernel_rfl) rfl (by rfl) (fun K hK => ?_)
  go_simp
  refine (S1.block_any s hs b hb hl _).mono ?_
  rintro _ w2 ⟨rfl, hb2⟩
  rw [HT.out]
  have hA2 := hA1.belowS hb2
  have hB2 := hB1.belowS hb2
  have hL2 := hL1.trans (hb2.mono hL1.size)
  clear hA1 hB1 hL1 hb2
  refine hK.out _ _ (⟨hA2, hB2⟩) (fun hHeld => ?_)
  clear hK K
  refine allReadyH_oneL (i := 7) (by kernel_rfl) rfl (by rfl) (fun K hK => ?_)
  go_simp
  refine (S1.refblock_any s hs _ b _ (hsl hB2) hb hl).mono ?_
  rintro _ w3 ⟨rfl, hb3⟩
  rw [HT.out]
  have hA3 := hA2.belowS hb3
  have hB3 := hB2.belowS hb3
  have hL3 := hL2.trans (hb3.mono hL2.size)
  clear hA2 hB2 hL2 hb3
  refine hK.out _ _ (⟨hA3, hB3⟩) (fun hHeld => ?_)
  clear hK K
  refine wpAnyH_takeL (i := 8) (v := ?v8) rfl (by kernel_rfl) (by kernel_rfl) (by kernel_rfl) (fun _ _ _ h => h) (by rfl) ?h8 (by assumption) ?_
  case h8 => intro w hSw; go_simp <;> with_reducible rfl
  simp only [Act.put, List.setIfInBounds_toArray, List.set_cons_zero, List.set_cons_succ]
  refine wpAnyH_takeL (i := 9) (v := ?v9) rfl (by kernel_rfl) (by kernel_rfl) (by kernel_rfl) (fun _ _ _ h => h) (by rfl) ?h9 (by assumption) ?_
  case h9 => intro w hSw; go_simp <;> with_reducible rfl
  simp only [Act.put, List.setIfInBounds_toArray, List.set_cons_zero, List.set_cons_succ]
  refine wpAnyH_takeL (i := 10) (v := ?v10) rfl (by kernel_rfl) (by kernel_rfl) (by kernel_rfl) (fun _ _ _ h => h) (by rfl) ?h10 (by assumption) ?_
  case h10 => intro w hSw; go_simp <;> with_reducible rfl
  simp only [Act.put, List.setIfInBounds_toArray, List.set_cons_zero, List.set_cons_succ]
  refine allReadyH_oneL (i := 11) (by kernel_rfl) rfl (by rfl) (fun K hK => ?_)
  go_simp
  refine (S1.start_any _).mono ?_
  rintro _ w4 ⟨rfl, hb4⟩
  rw [HU.out]
  have hA4 := hA3.belowS hb4
  have hB4 := hB3.belowS hb4
  have hL4 := hL3.trans (hb4.mono hL3.size)
  clear hA3 hB3 hL3 hb4
  refine hK.out _ _ (⟨hA4, hB4⟩) (fun hHeld => ?_)
  clear hK K
  refine allReadyH_oneL (i := 12) (by kernel_rfl) rfl (by rfl) (fun K hK => ?_)
  go_simp
  refine (S1.refstart_any _).mono ?_
  rintro _ w5 ⟨rfl, hb5⟩
  rw [HU.out]
  have hA5 := hA4.belowS hb5
  have hB5 := hB4.belowS hb5
  have hL5 := hL4.trans (hb5.mono hL4.size)
  clear hA4 hB4 hL4 hb5
  refine hK.out _ _ (⟨hA5, hB5⟩) (fun hHeld => ?_)
  clear hK K
  refine wpAnyH_takeL (i := 13) (v := ?v13) rfl (by kernel_rfl) (by kernel_rfl) (by kernel_rfl) (fun _ _ _ h => h) (by rfl) ?h13 (by assumption) ?_
  case h13 => intro w hSw; go_simp <;> with_reducible rfl
  simp only [Act.put, List.setIfInBounds_toArray, List.set_cons_zero, List.set_cons_succ]
  refine wpAnyH_takeL (i := 14) (v := ?v14) rfl (by kernel_rfl) (by kernel_rfl) (by kernel_rfl) (fun _ _ _ h => h) (by rfl) ?h14 (by assumption) ?_
  case h14 => intro w hSw; go_simp <;> with_reducible rfl
  simp only [Act.put, List.setIfInBounds_toArray, List.set_cons_zero, List.set_cons_succ]
  refine wpAnyH_takeL (i := 15) (v := ?v15) rfl (by kernel_rfl) (by kernel_rfl) (by kernel_rfl) (fun _ _ _ h => h) (by rfl) ?h15 (by assumption) ?_
  case h15 => intro w hSw; go_simp <;> with_reducible rfl
  simp only [Act.put, List.setIfInBounds_toArray, List.set_cons_zero, List.set_cons_succ]
  refine wpAnyH_done (by kernel_rfl) ?_ _
  refine NoPanic.normal ?_
  go_wp2
  go_ret
  exact ⟨rfl, hL5⟩

set_option maxRecDepth 100000 in
theorem lifted (os : Os) (started : os.Started) (H : Type) (enc : TypeId × Value → H) :
    ReturnsInHanded {} Try.checked os 4 .any (Rows.sha1BlockSpec.pre6 enc Try.prog Try.f4 Rows.sha1BlockRow.domain false) (Rows.sha1BlockSpec.post enc Try.prog Try.f4 false true false false) := by
  refine returnsInHanded_of_change (C := Try.checked) own started (by kernel_rfl) Try.func4
    (ChangeSpec.witness6 (enc := enc) (C := Try.checked) false ⟨#[], #[.agg (C .u32 (Z 5)).toArray, .agg (C .u8 (Z 64)).toArray], []⟩ 8 (by kernel_rfl) (by kernel_rfl) (by kernel_rfl) (by kernel_rfl)) ?_
  intro W base args ds gs before hval0 hW hcnd _
  have hval : ∀ (j : Nat) t v, Try.f4.params[j]? = some t → args[j]? = some v → Value.okWide Try.prog W .any base t v := hval0
  have hW' := hW
  obtain ⟨p, q, hA0, hV, rfl, hfz, hnd⟩ := hW
  have hA : DataW.TrodAll enc Try.prog W 0 (fun _ => true) true Try.f4.params.toList args.toList ds p := hA0
  rw [Try.params4] at hA hval
  obtain ⟨v0, vs0, d0, ds0, p0, q0, hargs, rfl, rfl, h0, r0⟩ := trodAll_cons hA
  obtain ⟨v1, vs1, d1, ds1, p1, q1, rfl, rfl, rfl, h1, r1⟩ := trodAll_cons r0
  obtain ⟨rfl, rfl, rfl⟩ := trodAll_nil r1
  obtain rfl : args = #[v0, v1] := by cases args; simp_all
  obtain ⟨rfl, rfl⟩ := trodVars_none hV
  have k0 := h0
  have lt0 : ∀ x ∈ p0, x.block < W.heap.size := by obtain ⟨m, hm⟩ := k0; exact DataW.trod_lt m _ _ _ hm
  have k1 := h1
  have lt1 : ∀ x ∈ p1, x.block < W.heap.size := by obtain ⟨m, hm⟩ := k1; exact DataW.trod_lt m _ _ _ hm
  obtain ⟨z0, rfl, hl0, hz0⟩ := open_array Try.underlying28 Try.underlying27 (by kernel_rfl) (by kernel_rfl) (hval 0 28 v0 rfl rfl) h0
  obtain ⟨z1, rfl, hl1, hz1⟩ := open_array Try.underlying29 Try.underlying5 (by kernel_rfl) (by kernel_rfl) (hval 1 29 v1 rfl rfl) h1
  obtain ⟨x0, e0, l0, b0⟩ := arr_words hz0
  obtain ⟨x1, e1, l1, b1⟩ := arr_bytes hz1
  rw [e0, e1] at hW' ⊢
  rw [e0] at k0
  rw [e1] at k1
  obtain ⟨s, hs, rfl⟩ := S1.five_of b0 (l0.trans hl0)
  clear hA0 hval0
  refine (walk s hs x1 b1 (l1.trans hl1) W).mono fun e W' ⟨he, bel⟩ => ?_
  subst he
  exact ⟨_, rfl, _, _, _, [], _, [], hW', trodAll_mk1 (shut_bool Try.underlying4 _), (trodAll_cons_mk (Below.trod laidOut (by kernel_rfl) (of_decide_eq_true (by kernel_rfl)) k0 bel lt0) (trodAll_cons_mk (Below.trod laidOut (by kernel_rfl) (of_decide_eq_true (by kernel_rfl)) k1 bel lt1) trodAll_mk0)), rfl, bel.frame _, fun h => by cases h⟩

theorem over : Rows.sha1BlockRow.holds Try.pinned (OpenSpec.ofChange Rows.sha1BlockSpec) :=
  OpenClaim.holds_of_wide 4 Try.f4 rfl rfl rfl rfl rfl rfl rfl ⟨rfl, rfl, rfl, rfl, rfl⟩ rfl rfl rfl rfl rfl (by kernel_rfl) Try.func4 (by kernel_rfl)
    (of_decide_eq_true (by kernel_rfl)) (by unfold Func.isWrapper; first | (rw [if_pos (by decide +kernel)]; kernel_rfl) | (rw [if_neg (by decide +kernel)]; exact ⟨rfl, rfl⟩))
    (fun os started H enc _ => lifted os started H enc)

end Go.Proofs.Ytjkmpkhcpilcfaa.sha1Block
namespace Go.Proofs.Ytjkmpkhcpilcfaa
/-- The given statement. -/
theorem sha1Block_proved : Rows.Sha1BlockSaid := sha1Block.over
end Go.Proofs.Ytjkmpkhcpilcfaa
