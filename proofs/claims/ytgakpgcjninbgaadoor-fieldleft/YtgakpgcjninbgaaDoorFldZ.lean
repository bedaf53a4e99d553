/-
  The live question's answer, without the document's functions. Conditions: each as it says.
-/
import Derived.Test.YtgakpgcjninbgaaDoorFldJ
namespace Go.Proofs.YtgakpgcjninbgaaDoor.F
open Go.RowKit
set_option linter.unusedVariables false
set_option maxRecDepth 10000

/-- What the package's variables hold. -/
structure Tabs (w : World) : Prop where
  p : Tab w
  r : Glob w 1 Q8
  i : Glob w 2 im
theorem Tabs.below {w w' : World} (h : Tabs w) (hb : Below w.heap.size w w') : Tabs w' := ⟨h.p.below hb, h.r.below hb, h.i.below hb⟩
theorem from_el (n : Nat) (hn : n < 18446744073709551616) (w : World) : Calls Tryd.prog 17 #[.int .u64 (n : Int)] w fun e w' => e = .returned (.agg (C .u64 (wds n)).toArray) ∧ Below w.heap.size w w' := from_any n hn w
theorem fadd_el (A B : Nat) (hA : A < 115792089237316195423570985008687907853269984665640564039457584007913129639936) (hB : B < 115792089237316195423570985008687907853269984665640564039457584007913129639936) (w : World) (hT : Tab w) : Calls Tryd.prog 13 #[.agg (C .u64 (wds A)).toArray, .agg (C .u64 (wds B)).toArray] w fun e w' => e = .returned (.agg (C .u64 (wds ((A + B) % P))).toArray) ∧ Below w.heap.size w w' := fadd_any A B hA hB w hT
theorem froot_el (A : Nat) (hA : A < 115792089237316195423570985008687907853269984665640564039457584007913129639936) (w : World) (hT : Tabs w) : Calls Tryd.prog 20 #[.agg (C .u64 (wds A)).toArray] w fun e w' => e = .returned (.tuple #[.agg (C .u64 (wds (rt A).1)).toArray, .bool (rt A).2]) ∧ Below w.heap.size w w' := froot_any A hA w hT.p hT.r hT.i
theorem rt_lt (A : Nat) : (rt A).1 < 115792089237316195423570985008687907853269984665640564039457584007913129639936 := by
  cases h : (rt A).2
  · rw [(rt_none h).1]; decide
  · exact Nat.lt_trans (rt_true h).1 P_lt
theorem same4 (X : Nat) (hX : X < 115792089237316195423570985008687907853269984665640564039457584007913129639936) (w : World) : (Op.equalIn 10000 24 (.agg (C .u64 (wds X)).toArray) (.agg (C .u64 (wds X)).toArray)).run Tryd.prog w = .ok true w := by
  rw [eq4 w X X hX hX]
  simp
theorem eq32 (w : World) (xs ys : List Nat) (hx : xs.length = 32) (hy : ys.length = 32) : (Op.equalIn 10000 32 (.agg (C .u8 xs).toArray) (.agg (C .u8 ys).toArray)).run Tryd.prog w = .ok (decide (xs = ys)) w := by
  have hi : ∃ i, Tryd.prog.info? 5 = some i := by
    have := i1b
    cases hq : Tryd.prog.info? 5 with
    | none => rw [hq] at this; cases this
    | some i => exact ⟨i, rfl⟩
  exact run_equal_C w 9998 Tryd.underlying32 (by kernel_rfl) Tryd.underlying5 hi (by kernel_rfl) xs ys hx hy
theorem cell0 {w : World} {g A : Nat} {t : TypeId} (h : Row w g t (C .u64 (wds A))) (hA : A < 115792089237316195423570985008687907853269984665640564039457584007913129639936) : w.cell? ⟨g, 0, none⟩ = some (.int .u64 ((A % 18446744073709551616 : Nat) : Int)) := by
  rw [h.cell, C_get .u64 (by rw [wds_length]; decide), wds_getD hA, Nat.pow_zero, Nat.div_one]
/-- Four words that came in. -/
theorem elem_of {zs : List Int} (hl : zs.length = 4) (h : ∀ z ∈ zs, (Lit.int .u64 z).wf = true) : ∃ n, n < 115792089237316195423570985008687907853269984665640564039457584007913129639936 ∧ zs.map (Value.int .u64) = C .u64 (wds n) := by
  have hlo : Lo 18446744073709551616 (zs.map Int.toNat) := by
    intro x hx
    obtain ⟨z, hz, rfl⟩ := List.mem_map.1 hx
    have := u64_of_wf (h z hz); omega
  obtain ⟨h1, h2⟩ := of_wds (xs := zs.map Int.toNat) (by simpa using hl) hlo
  exact ⟨_, h1, by rw [C_ofInts (fun z hz => (u64_of_wf (h z hz)).1), ← h2]⟩

theorem ag (n : Nat) (h : n < 18446744073709551616) : Value.agg #[.int .u64 (n : Int), .int .u64 0, .int .u64 0, .int .u64 0] = .agg (C .u64 (wds n)).toArray := by rw [wds_small h]; rfl
theorem bP1 : Tryd.prog.built 24 [(0, .int .u64 18446744073709551596), (1, .int .u64 18446744073709551615), (2, .int .u64 18446744073709551615), (3, .int .u64 9223372036854775807)] = some (C .u64 (wds (P - 1))).toArray := by kernel_rfl
theorem bb3 : Tryd.prog.built 24 [(0, .int .u64 3)] = some (C .u64 (wds 3)).toArray := by kernel_rfl
theorem bb4 : Tryd.prog.built 24 [(0, .int .u64 4)] = some (C .u64 (wds 4)).toArray := by kernel_rfl
theorem bb5 : Tryd.prog.built 24 [(0, .int .u64 5)] = some (C .u64 (wds 5)).toArray := by kernel_rfl
theorem bb15 : Tryd.prog.built 24 [(0, .int .u64 15)] = some (C .u64 (wds 15)).toArray := by kernel_rfl
theorem P1_lt : P - 1 < 115792089237316195423570985008687907853269984665640564039457584007913129639936 := by decide +kernel
set_option maxHeartbeats 1000000 in
theorem alive11_true (w : World) (hT : Tabs w) : Calls Tryd.prog 10 #[] w fun e w' => e = .returned (.bool true) ∧ Below w.heap.size w w' := by
  have hro := froot_el 4 (by decide)
  rw [rt_only (a := 4) (r := 2) (by decide +kernel) (by decide) rfl] at hro
  have had := fadd_el (P - 1) 2 P1_lt (by decide)
  rw [show (P - 1 + 2) % P = 1 by decide +kernel] at had
  have hmu := fmul_el 3 5 (by decide) (by decide)
  rw [show 3 * 5 % P = 15 by decide +kernel] at hmu
  have s1 := same4 1 (by decide)
  have s2 := same4 2 (by decide)
  have s15 := same4 15 (by decide)
  have iM := ie4 (P - 1)
  have zM := ze4 (P - 1)
  have bM : Value.agg #[.int .u64 18446744073709551596, .int .u64 18446744073709551615, .int .u64 18446744073709551615, .int .u64 9223372036854775807] = .agg (C .u64 (wds (P - 1))).toArray := by kernel_rfl
  generalize P - 1 = M at *
  have r1 := Row.new w 24 (C .u64 (Z 4))
  have hL := (Below.more (Below.refl w.heap.size w) (Nat.le_refl _) (.cells (C .u64 (Z 4)).toArray 24)).1
  go_enter Tryd.func10, Tryd.ntmps10
  go_upto_region 2 with (first | refine wpList_alloc_row rfl 24 rfl _ z4 ?_ | (refine wpList_store_R rfl 24 _ _ rfl _ (C .u64 (wds M)) rfl rfl r1 iM zM (C_allL _ _) ?_; intro w5 q1 hg5 hz5))
  replace hL := below_grown hL hg5 (by omega) r1.lt
  clear r1 hg5 hz5
  go_wp2_with fail
  refine (hro _ (hT.below hL)).mono ?_
  rintro _ wn ⟨rfl, hb⟩
  replace q1 := q1.belowS hb
  replace hL := hL.trans (hb.mono hL.size)
  clear hb hro
  have q0 := Row.new wn 24 (C .u64 (Z 4))
  have hn1 := q1.lt
  replace q1 := q1.alloc (.cells (C .u64 (Z 4)).toArray 24)
  replace hL := hL.alloc hL.size (.cells (C .u64 (Z 4)).toArray 24)
  generalize hg4 : wn.heap.size = g4 at *
  go_upto_region 3 with (first | refine wpList_alloc_row rfl 24 rfl _ z4 ?_ | (refine wpList_store_R rfl 24 _ _ rfl _ (C .u64 (wds 2)) (by rw [← hg4]; rfl) rfl q0 (ie4 _) (ze4 _) (C_allL _ _) ?_; intro w6 q2 hg5 hz5))
  replace q1 := q1.grown hg5 (by simp; omega)
  replace hL := below_grown hL hg5 (by omega) q0.lt
  try rw [hg4]
  clear q0 hg5 hz5 hg4
  go_wp2_with (first | refine wpList_load_row rfl 24 _ rfl _ rfl _ _ _ _ q1 Tryd.underlying24 rfl iM ?_)
  refine (had _ (hT.below hL).p).mono ?_
  rintro _ wn ⟨rfl, hb⟩
  replace q2 := q2.belowS hb
  replace hL := hL.trans (hb.mono hL.size)
  clear hb had q1
  have a1 : Value.agg #[.int .u64 1, .int .u64 0, .int .u64 0, .int .u64 0] = .agg (C .u64 (wds 1)).toArray := ag 1 (by decide)
  have a2 : Value.agg #[.int .u64 2, .int .u64 0, .int .u64 0, .int .u64 0] = .agg (C .u64 (wds 2)).toArray := ag 2 (by decide)
  have a15 : Value.agg #[.int .u64 15, .int .u64 0, .int .u64 0, .int .u64 0] = .agg (C .u64 (wds 15)).toArray := ag 15 (by decide)
  have k0 : wn.cell? ⟨g4, 0, none⟩ = some (.int .u64 2) := (q2.cell 0).trans (by kernel_rfl)
  have k1 : wn.cell? ⟨g4, 1, none⟩ = some (.int .u64 0) := (q2.cell 1).trans (by kernel_rfl)
  have k2 : wn.cell? ⟨g4, 2, none⟩ = some (.int .u64 0) := (q2.cell 2).trans (by kernel_rfl)
  have k3 : wn.cell? ⟨g4, 3, none⟩ = some (.int .u64 0) := (q2.cell 3).trans (by kernel_rfl)
  go_wp2_with fail
  refine (hmu _ (hT.below hL).p).mono ?_
  rintro _ wn2 ⟨rfl, hb⟩
  replace hL := hL.trans (hb.mono hL.size)
  clear hb hmu q2
  go_wp2
  go_ret
  exact ⟨rfl, hL⟩
end Go.Proofs.YtgakpgcjninbgaaDoor.F
