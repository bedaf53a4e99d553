/-
  A hash begun, New. Over this seat's translation. Conditions: as each says.
-/
import Derived.Test.YtmbaenodibfedaaDoorHshY
namespace Go.Proofs.YtmbaenodibfedaaDoor.S9
open Go.RowKit
set_option linter.unusedVariables false
set_option maxRecDepth 10000

theorem wp_built {P : Program} {o : Oper} {a : Act} {w : World} {K : Act → World → Prop} {Q : Exit → Act → World → Prop} {t : TypeId} {parts : Array (Nat × Operand)} (ho : o.op = .build t parts) {cs : Array Value} (hb : P.built t (parts.map fun (i, x) => (i, a.eval x)).toList = some cs) (h : K (a.put o.dst (.agg cs)) w) : o.wp P a w K Q :=
  wp_build t parts ho (by rw [hb]; rfl) (by rw [hb]; exact h)
theorem built_2 : Tryd.prog.built 78 [(0, .agg (C .u32 S1.start1.list).toArray), (3, .int .i64 64), (4, .int .i64 (siz 2 : Nat)), (5, .func (.func 46) #[] #[]), (6, .func (.func 47) #[] #[])] = some (W1.cells S1.start1 (.slice none 0 0) 0 20).toArray := by kernel_rfl
theorem begun_2 (w : World) (hT : Tabs w) : Calls Tryd.prog 27 #[.int .i64 2] w fun e w' => ∃ q, e = .returned (.iface 75 (.pointer (some ⟨q, 0, none⟩))) ∧ W1.KI w' q (.slice none 0 0) S1.start1 [] 0 20 ∧ w.heap.size ≤ q ∧ Below w.heap.size w w' := by
  have h2 : 2 ≤ w.heap.size := hT.b.pos
  go_enter Tryd.func27, Tryd.ntmps27
  go_wp2_with fail
  refine (S1.start_any _).mono ?_
  rintro _ w1 ⟨rfl, hb1⟩
  go_wp2_with fail
  refine (size_any 2 _).mono ?_
  rintro _ w2 ⟨rfl, rfl⟩
  have hsz := hb1.size
  have hN := Row.new w1 78 (W1.cells S1.start1 (.slice none 0 0) 0 20)
  have hL := Below.more hb1 hb1.size (.cells (W1.cells S1.start1 (.slice none 0 0) 0 20).toArray 78)
  go_wp2_with (refine wpList_build rfl _ _ rfl ?_ ?_)
  case refine_1 => rw [built_2]; rfl
  rw [built_2]
  go_ret
  exact ⟨_, rfl, ⟨by omega, hN, World.ownsRow_nil _ 2 _ 1⟩, hsz, hL.1⟩
theorem built_8 : Tryd.prog.built 82 [(0, .agg (C .u32 (S2.start2 (lg2 8)).list).toArray), (3, .int .i64 64), (4, .int .i64 (siz 8 : Nat)), (5, .func (.func 48) #[] #[]), (6, .func (.func 49) #[] #[])] = some (W2.cells (S2.start2 (lg2 8)) (.slice none 0 0) 0 (siz 8)).toArray := by kernel_rfl
set_option maxHeartbeats 800000 in
theorem begun_8 (w : World) (hT : Tabs w) : Calls Tryd.prog 27 #[.int .i64 8] w fun e w' => ∃ q, e = .returned (.iface 79 (.pointer (some ⟨q, 0, none⟩))) ∧ W2.KI w' q (.slice none 0 0) (S2.start2 (lg2 8)) [] 0 (siz 8) ∧ w.heap.size ≤ q ∧ Below w.heap.size w w' := by
  have h2 : 2 ≤ w.heap.size := hT.b.pos
  obtain ⟨Y, hY⟩ : ∃ Y, (S2.start2 (lg2 8)) = Y := ⟨_, rfl⟩
  obtain ⟨cs, hcs⟩ : ∃ cs, (W2.cells (S2.start2 (lg2 8)) (.slice none 0 0) 0 (siz 8)) = cs := ⟨_, rfl⟩
  have hBu := built_8
  rw [hcs, hY] at hBu
  have HB := Away.mk hBu
  clear hBu
  have HY := Away.mk hY
  have HC := Away.mk hcs
  clear hY hcs
  go_enter Tryd.func27, Tryd.ntmps27
  go_wp2_with fail
  refine (S2.start_any _ _).mono ?_
  rintro _ w1 ⟨rfl, hb1⟩
  rw [show S2.start2 true = Y from HY.out]
  have hA := Row.new w1 65 (C .u32 (Z 8))
  have hL2 := Below.more hb1 hb1.size (.cells (C .u32 (Z 8)).toArray 65)
  have hsz := hb1.size
  have iH : (Tryd.prog.info? 65).map (·.size) = some (C .u32 Y.list).length := S2.i8
  have hH : (C .u32 (Z 8)).length = (C .u32 Y.list).length := rfl
  clear hb1
  go_upto_region 7 with (first | refine wpList_alloc_row rfl 65 rfl _ S2.z8 ?_ | (refine wpList_store_R rfl 65 _ _ rfl _ (C .u32 Y.list) rfl rfl hA iH hH (C_allL _ _) ?_; intro w2 hA2 hg2 hz2))
  have hL3 := below_grown hL2.1 hg2 hsz hA.lt
  have hsz2 : w1.heap.size < w2.heap.size := hA2.lt
  have hN := Row.new w2.drew 82 cs
  have hL4 := Below.more hL3.drew (show w.heap.size ≤ w2.drew.heap.size from hL3.size) (.cells cs.toArray 82)
  clear hA hL2 hg2 hz2
  refine wp_region_noPanic ?_
  refine wp_region_held_drew (S := fun w' => Row w' w1.heap.size 65 (C .u32 Y.list)) (by kernel_rfl) (hA2.drew) (fun hHeld => ?_)
  refine wpAnyH_takeL (i := 0) (v := (.agg (C .u32 Y.list).toArray)) rfl (by kernel_rfl) (by kernel_rfl) (by kernel_rfl) (fun _ _ _ h => h) (by rfl) ?h0b8 (by assumption) ?_
  case h0b8 => intro w hSw; exact exec_load_R 65 _ rfl rfl hSw Tryd.underlying65 S2.i8
  simp only [Act.put, List.setIfInBounds_toArray, List.set_cons_zero, List.set_cons_succ]
  refine wpAnyH_takeL (i := 1) (v := ?v1b8) rfl (by kernel_rfl) (by kernel_rfl) (by kernel_rfl) (fun _ _ _ h => h) (by rfl) ?h1b8 (by assumption) ?_
  case h1b8 => intro w hSw; go_simp <;> with_reducible rfl
  simp only [Act.put, List.setIfInBounds_toArray, List.set_cons_zero, List.set_cons_succ]
  refine allReadyH_oneL (i := 2) (by kernel_rfl) rfl (by rfl) (fun K hK => ?_)
  go_simp
  refine (size_any 8 _).mono ?_
  rintro _ w5 ⟨rfl, rfl⟩
  refine hK.out _ _ (hA2.drew) (fun hHeld => ?_)
  clear hK K
  refine allReadyH_oneL (i := 3) (by kernel_rfl) rfl (by rfl) (fun K hK => ?_)
  refine wp_built rfl (cs := cs.toArray) (by simp only [List.map_toArray, List.map_cons, List.map_nil, Act.eval]; exact HB.out) ?_
  refine hK.out _ _ (hA2.drew) (fun hHeld => ?_)
  clear hK K
  refine allReadyH_oneL (i := 4) (by kernel_rfl) rfl (by rfl) (fun K hK => ?_)
  go_simp
  refine hK.out _ _ ((hA2.drew).alloc _) (fun hHeld => ?_)
  clear hK K
  refine allReadyH_oneL (i := 5) (by kernel_rfl) rfl (by rfl) (fun K hK => ?_)
  refine wp_value (.iface 79 (.pointer (some ⟨w2.heap.size, 0, none⟩))) (by go_simp <;> with_reducible rfl) ?_
  refine hK.out _ _ ((hA2.drew).alloc _) (fun hHeld => ?_)
  clear hK K
  refine allReadyH_oneL (i := 6) (by kernel_rfl) rfl (by rfl) (fun K hK => ?_)
  refine wp_value (.iface 79 (.pointer (some ⟨w2.heap.size, 0, none⟩))) (by go_simp <;> with_reducible rfl) ?_
  refine hK.out _ _ ((hA2.drew).alloc _) (fun hHeld => ?_)
  clear hK K
  refine wpAnyH_done (by kernel_rfl) ?_ _
  refine NoPanic.normal ?_
  simp only [Act.put, List.setIfInBounds_toArray, List.set_cons_zero, List.set_cons_succ]
  go_wp2
  go_ret
  refine ⟨_, rfl, ⟨by omega, ?_, World.ownsRow_nil _ 2 _ 1⟩, by omega, hL4.1⟩
  show Row _ _ _ (W2.cells (S2.start2 (lg2 8)) (.slice none 0 0) 0 (siz 8))
  rw [HC.out]
  exact hN
theorem built_11 : Tryd.prog.built 82 [(0, .agg (C .u32 (S2.start2 (lg2 11)).list).toArray), (3, .int .i64 64), (4, .int .i64 (siz 11 : Nat)), (5, .func (.func 48) #[] #[]), (6, .func (.func 49) #[] #[])] = some (W2.cells (S2.start2 (lg2 11)) (.slice none 0 0) 0 (siz 11)).toArray := by kernel_rfl
set_option maxHeartbeats 800000 in
theorem begun_11 (w : World) (hT : Tabs w) : Calls Tryd.prog 27 #[.int .i64 11] w fun e w' => ∃ q, e = .returned (.iface 79 (.pointer (some ⟨q, 0, none⟩))) ∧ W2.KI w' q (.slice none 0 0) (S2.start2 (lg2 11)) [] 0 (siz 11) ∧ w.heap.size ≤ q ∧ Below w.heap.size w w' := by
  have h2 : 2 ≤ w.heap.size := hT.b.pos
  obtain ⟨Y, hY⟩ : ∃ Y, (S2.start2 (lg2 11)) = Y := ⟨_, rfl⟩
  obtain ⟨cs, hcs⟩ : ∃ cs, (W2.cells (S2.start2 (lg2 11)) (.slice none 0 0) 0 (siz 11)) = cs := ⟨_, rfl⟩
  have hBu := built_11
  rw [hcs, hY] at hBu
  have HB := Away.mk hBu
  clear hBu
  have HY := Away.mk hY
  have HC := Away.mk hcs
  clear hY hcs
  go_enter Tryd.func27, Tryd.ntmps27
  go_wp2_with fail
  refine (S2.start_any _ _).mono ?_
  rintro _ w1 ⟨rfl, hb1⟩
  rw [show S2.start2 false = Y from HY.out]
  have hA := Row.new w1 65 (C .u32 (Z 8))
  have hL2 := Below.more hb1 hb1.size (.cells (C .u32 (Z 8)).toArray 65)
  have hsz := hb1.size
  have iH : (Tryd.prog.info? 65).map (·.size) = some (C .u32 Y.list).length := S2.i8
  have hH : (C .u32 (Z 8)).length = (C .u32 Y.list).length := rfl
  clear hb1
  go_upto_region 7 with (first | refine wpList_alloc_row rfl 65 rfl _ S2.z8 ?_ | (refine wpList_store_R rfl 65 _ _ rfl _ (C .u32 Y.list) rfl rfl hA iH hH (C_allL _ _) ?_; intro w2 hA2 hg2 hz2))
  have hL3 := below_grown hL2.1 hg2 hsz hA.lt
  have hsz2 : w1.heap.size < w2.heap.size := hA2.lt
  have hN := Row.new w2.drew 82 cs
  have hL4 := Below.more hL3.drew (show w.heap.size ≤ w2.drew.heap.size from hL3.size) (.cells cs.toArray 82)
  clear hA hL2 hg2 hz2
  refine wp_region_noPanic ?_
  refine wp_region_held_drew (S := fun w' => Row w' w1.heap.size 65 (C .u32 Y.list)) (by kernel_rfl) (hA2.drew) (fun hHeld => ?_)
  refine wpAnyH_takeL (i := 0) (v := (.agg (C .u32 Y.list).toArray)) rfl (by kernel_rfl) (by kernel_rfl) (by kernel_rfl) (fun _ _ _ h => h) (by rfl) ?h0b11 (by assumption) ?_
  case h0b11 => intro w hSw; exact exec_load_R 65 _ rfl rfl hSw Tryd.underlying65 S2.i8
  simp only [Act.put, List.setIfInBounds_toArray, List.set_cons_zero, List.set_cons_succ]
  refine wpAnyH_takeL (i := 1) (v := ?v1b11) rfl (by kernel_rfl) (by kernel_rfl) (by kernel_rfl) (fun _ _ _ h => h) (by rfl) ?h1b11 (by assumption) ?_
  case h1b11 => intro w hSw; go_simp <;> with_reducible rfl
  simp only [Act.put, List.setIfInBounds_toArray, List.set_cons_zero, List.set_cons_succ]
  refine allReadyH_oneL (i := 2) (by kernel_rfl) rfl (by rfl) (fun K hK => ?_)
  go_simp
  refine (size_any 11 _).mono ?_
  rintro _ w5 ⟨rfl, rfl⟩
  refine hK.out _ _ (hA2.drew) (fun hHeld => ?_)
  clear hK K
  refine allReadyH_oneL (i := 3) (by kernel_rfl) rfl (by rfl) (fun K hK => ?_)
  refine wp_built rfl (cs := cs.toArray) (by simp only [List.map_toArray, List.map_cons, List.map_nil, Act.eval]; exact HB.out) ?_
  refine hK.out _ _ (hA2.drew) (fun hHeld => ?_)
  clear hK K
  refine allReadyH_oneL (i := 4) (by kernel_rfl) rfl (by rfl) (fun K hK => ?_)
  go_simp
  refine hK.out _ _ ((hA2.drew).alloc _) (fun hHeld => ?_)
  clear hK K
  refine allReadyH_oneL (i := 5) (by kernel_rfl) rfl (by rfl) (fun K hK => ?_)
  refine wp_value (.iface 79 (.pointer (some ⟨w2.heap.size, 0, none⟩))) (by go_simp <;> with_reducible rfl) ?_
  refine hK.out _ _ ((hA2.drew).alloc _) (fun hHeld => ?_)
  clear hK K
  refine allReadyH_oneL (i := 6) (by kernel_rfl) rfl (by rfl) (fun K hK => ?_)
  refine wp_value (.iface 79 (.pointer (some ⟨w2.heap.size, 0, none⟩))) (by go_simp <;> with_reducible rfl) ?_
  refine hK.out _ _ ((hA2.drew).alloc _) (fun hHeld => ?_)
  clear hK K
  refine wpAnyH_done (by kernel_rfl) ?_ _
  refine NoPanic.normal ?_
  simp only [Act.put, List.setIfInBounds_toArray, List.set_cons_zero, List.set_cons_succ]
  go_wp2
  go_ret
  refine ⟨_, rfl, ⟨by omega, ?_, World.ownsRow_nil _ 2 _ 1⟩, by omega, hL4.1⟩
  show Row _ _ _ (W2.cells (S2.start2 (lg2 11)) (.slice none 0 0) 0 (siz 11))
  rw [HC.out]
  exact hN
theorem built_9 : Tryd.prog.built 86 [(0, .agg (C .u64 (S3.start3 (lg3 9)).list).toArray), (3, .int .i64 128), (4, .int .i64 (siz 9 : Nat)), (5, .func (.func 50) #[] #[]), (6, .func (.func 51) #[] #[])] = some (W3.cells (S3.start3 (lg3 9)) (.slice none 0 0) 0 (siz 9)).toArray := by kernel_rfl
set_option maxHeartbeats 800000 in
theorem begun_9 (w : World) (hT : Tabs w) : Calls Tryd.prog 27 #[.int .i64 9] w fun e w' => ∃ q, e = .returned (.iface 83 (.pointer (some ⟨q, 0, none⟩))) ∧ W3.KI w' q (.slice none 0 0) (S3.start3 (lg3 9)) [] 0 (siz 9) ∧ w.heap.size ≤ q ∧ Below w.heap.size w w' := by
  have h2 : 2 ≤ w.heap.size := hT.b.pos
  obtain ⟨Y, hY⟩ : ∃ Y, (S3.start3 (lg3 9)) = Y := ⟨_, rfl⟩
  obtain ⟨cs, hcs⟩ : ∃ cs, (W3.cells (S3.start3 (lg3 9)) (.slice none 0 0) 0 (siz 9)) = cs := ⟨_, rfl⟩
  have hBu := built_9
  rw [hcs, hY] at hBu
  have HB := Away.mk hBu
  clear hBu
  have HY := Away.mk hY
  have HC := Away.mk hcs
  clear hY hcs
  go_enter Tryd.func27, Tryd.ntmps27
  go_wp2_with fail
  refine (S3.start_any _ _).mono ?_
  rintro _ w1 ⟨rfl, hb1⟩
  rw [show S3.start3 false = Y from HY.out]
  have hA := Row.new w1 69 (C .u64 (Z 8))
  have hL2 := Below.more hb1 hb1.size (.cells (C .u64 (Z 8)).toArray 69)
  have hsz := hb1.size
  have iH : (Tryd.prog.info? 69).map (·.size) = some (C .u64 Y.list).length := S3.i8
  have hH : (C .u64 (Z 8)).length = (C .u64 Y.list).length := rfl
  clear hb1
  go_upto_region 11 with (first | refine wpList_alloc_row rfl 69 rfl _ S3.z8 ?_ | (refine wpList_store_R rfl 69 _ _ rfl _ (C .u64 Y.list) rfl rfl hA iH hH (C_allL _ _) ?_; intro w2 hA2 hg2 hz2))
  have hL3 := below_grown hL2.1 hg2 hsz hA.lt
  have hsz2 : w1.heap.size < w2.heap.size := hA2.lt
  have hN := Row.new w2.drew 86 cs
  have hL4 := Below.more hL3.drew (show w.heap.size ≤ w2.drew.heap.size from hL3.size) (.cells cs.toArray 86)
  clear hA hL2 hg2 hz2
  refine wp_region_noPanic ?_
  refine wp_region_held_drew (S := fun w' => Row w' w1.heap.size 69 (C .u64 Y.list)) (by kernel_rfl) (hA2.drew) (fun hHeld => ?_)
  refine wpAnyH_takeL (i := 0) (v := (.agg (C .u64 Y.list).toArray)) rfl (by kernel_rfl) (by kernel_rfl) (by kernel_rfl) (fun _ _ _ h => h) (by rfl) ?h0b9 (by assumption) ?_
  case h0b9 => intro w hSw; exact exec_load_R 69 _ rfl rfl hSw Tryd.underlying69 S3.i8
  simp only [Act.put, List.setIfInBounds_toArray, List.set_cons_zero, List.set_cons_succ]
  refine wpAnyH_takeL (i := 1) (v := ?v1b9) rfl (by kernel_rfl) (by kernel_rfl) (by kernel_rfl) (fun _ _ _ h => h) (by rfl) ?h1b9 (by assumption) ?_
  case h1b9 => intro w hSw; go_simp <;> with_reducible rfl
  simp only [Act.put, List.setIfInBounds_toArray, List.set_cons_zero, List.set_cons_succ]
  refine allReadyH_oneL (i := 2) (by kernel_rfl) rfl (by rfl) (fun K hK => ?_)
  go_simp
  refine (size_any 9 _).mono ?_
  rintro _ w5 ⟨rfl, rfl⟩
  refine hK.out _ _ (hA2.drew) (fun hHeld => ?_)
  clear hK K
  refine allReadyH_oneL (i := 3) (by kernel_rfl) rfl (by rfl) (fun K hK => ?_)
  refine wp_built rfl (cs := cs.toArray) (by simp only [List.map_toArray, List.map_cons, List.map_nil, Act.eval]; exact HB.out) ?_
  refine hK.out _ _ (hA2.drew) (fun hHeld => ?_)
  clear hK K
  refine allReadyH_oneL (i := 4) (by kernel_rfl) rfl (by rfl) (fun K hK => ?_)
  go_simp
  refine hK.out _ _ ((hA2.drew).alloc _) (fun hHeld => ?_)
  clear hK K
  refine allReadyH_oneL (i := 5) (by kernel_rfl) rfl (by rfl) (fun K hK => ?_)
  refine wp_value (.iface 83 (.pointer (some ⟨w2.heap.size, 0, none⟩))) (by go_simp <;> with_reducible rfl) ?_
  refine hK.out _ _ ((hA2.drew).alloc _) (fun hHeld => ?_)
  clear hK K
  refine allReadyH_oneL (i := 6) (by kernel_rfl) rfl (by rfl) (fun K hK => ?_)
  refine wp_value (.iface 83 (.pointer (some ⟨w2.heap.size, 0, none⟩))) (by go_simp <;> with_reducible rfl) ?_
  refine hK.out _ _ ((hA2.drew).alloc _) (fun hHeld => ?_)
  clear hK K
  refine wpAnyH_done (by kernel_rfl) ?_ _
  refine NoPanic.normal ?_
  simp only [Act.put, List.setIfInBounds_toArray, List.set_cons_zero, List.set_cons_succ]
  go_wp2
  go_ret
  refine ⟨_, rfl, ⟨by omega, ?_, World.ownsRow_nil _ 2 _ 1⟩, by omega, hL4.1⟩
  show Row _ _ _ (W3.cells (S3.start3 (lg3 9)) (.slice none 0 0) 0 (siz 9))
  rw [HC.out]
  exact hN
theorem built_10 : Tryd.prog.built 86 [(0, .agg (C .u64 (S3.start3 (lg3 10)).list).toArray), (3, .int .i64 128), (4, .int .i64 (siz 10 : Nat)), (5, .func (.func 50) #[] #[]), (6, .func (.func 51) #[] #[])] = some (W3.cells (S3.start3 (lg3 10)) (.slice none 0 0) 0 (siz 10)).toArray := by kernel_rfl
set_option maxHeartbeats 800000 in
theorem begun_10 (w : World) (hT : Tabs w) : Calls Tryd.prog 27 #[.int .i64 10] w fun e w' => ∃ q, e = .returned (.iface 83 (.pointer (some ⟨q, 0, none⟩))) ∧ W3.KI w' q (.slice none 0 0) (S3.start3 (lg3 10)) [] 0 (siz 10) ∧ w.heap.size ≤ q ∧ Below w.heap.size w w' := by
  have h2 : 2 ≤ w.heap.size := hT.b.pos
  obtain ⟨Y, hY⟩ : ∃ Y, (S3.start3 (lg3 10)) = Y := ⟨_, rfl⟩
  obtain ⟨cs, hcs⟩ : ∃ cs, (W3.cells (S3.start3 (lg3 10)) (.slice none 0 0) 0 (siz 10)) = cs := ⟨_, rfl⟩
  have hBu := built_10
  rw [hcs, hY] at hBu
  have HB := Away.mk hBu
  clear hBu
  have HY := Away.mk hY
  have HC := Away.mk hcs
  clear hY hcs
  go_enter Tryd.func27, Tryd.ntmps27
  go_wp2_with fail
  refine (S3.start_any _ _).mono ?_
  rintro _ w1 ⟨rfl, hb1⟩
  rw [show S3.start3 true = Y from HY.out]
  have hA := Row.new w1 69 (C .u64 (Z 8))
  have hL2 := Below.more hb1 hb1.size (.cells (C .u64 (Z 8)).toArray 69)
  have hsz := hb1.size
  have iH : (Tryd.prog.info? 69).map (·.size) = some (C .u64 Y.list).length := S3.i8
  have hH : (C .u64 (Z 8)).length = (C .u64 Y.list).length := rfl
  clear hb1
  go_upto_region 11 with (first | refine wpList_alloc_row rfl 69 rfl _ S3.z8 ?_ | (refine wpList_store_R rfl 69 _ _ rfl _ (C .u64 Y.list) rfl rfl hA iH hH (C_allL _ _) ?_; intro w2 hA2 hg2 hz2))
  have hL3 := below_grown hL2.1 hg2 hsz hA.lt
  have hsz2 : w1.heap.size < w2.heap.size := hA2.lt
  have hN := Row.new w2.drew 86 cs
  have hL4 := Below.more hL3.drew (show w.heap.size ≤ w2.drew.heap.size from hL3.size) (.cells cs.toArray 86)
  clear hA hL2 hg2 hz2
  refine wp_region_noPanic ?_
  refine wp_region_held_drew (S := fun w' => Row w' w1.heap.size 69 (C .u64 Y.list)) (by kernel_rfl) (hA2.drew) (fun hHeld => ?_)
  refine wpAnyH_takeL (i := 0) (v := (.agg (C .u64 Y.list).toArray)) rfl (by kernel_rfl) (by kernel_rfl) (by kernel_rfl) (fun _ _ _ h => h) (by rfl) ?h0b10 (by assumption) ?_
  case h0b10 => intro w hSw; exact exec_load_R 69 _ rfl rfl hSw Tryd.underlying69 S3.i8
  simp only [Act.put, List.setIfInBounds_toArray, List.set_cons_zero, List.set_cons_succ]
  refine wpAnyH_takeL (i := 1) (v := ?v1b10) rfl (by kernel_rfl) (by kernel_rfl) (by kernel_rfl) (fun _ _ _ h => h) (by rfl) ?h1b10 (by assumption) ?_
  case h1b10 => intro w hSw; go_simp <;> with_reducible rfl
  simp only [Act.put, List.setIfInBounds_toArray, List.set_cons_zero, List.set_cons_succ]
  refine allReadyH_oneL (i := 2) (by kernel_rfl) rfl (by rfl) (fun K hK => ?_)
  go_simp
  refine (size_any 10 _).mono ?_
  rintro _ w5 ⟨rfl, rfl⟩
  refine hK.out _ _ (hA2.drew) (fun hHeld => ?_)
  clear hK K
  refine allReadyH_oneL (i := 3) (by kernel_rfl) rfl (by rfl) (fun K hK => ?_)
  refine wp_built rfl (cs := cs.toArray) (by simp only [List.map_toArray, List.map_cons, List.map_nil, Act.eval]; exact HB.out) ?_
  refine hK.out _ _ (hA2.drew) (fun hHeld => ?_)
  clear hK K
  refine allReadyH_oneL (i := 4) (by kernel_rfl) rfl (by rfl) (fun K hK => ?_)
  go_simp
  refine hK.out _ _ ((hA2.drew).alloc _) (fun hHeld => ?_)
  clear hK K
  refine allReadyH_oneL (i := 5) (by kernel_rfl) rfl (by rfl) (fun K hK => ?_)
  refine wp_value (.iface 83 (.pointer (some ⟨w2.heap.size, 0, none⟩))) (by go_simp <;> with_reducible rfl) ?_
  refine hK.out _ _ ((hA2.drew).alloc _) (fun hHeld => ?_)
  clear hK K
  refine allReadyH_oneL (i := 6) (by kernel_rfl) rfl (by rfl) (fun K hK => ?_)
  refine wp_value (.iface 83 (.pointer (some ⟨w2.heap.size, 0, none⟩))) (by go_simp <;> with_reducible rfl) ?_
  refine hK.out _ _ ((hA2.drew).alloc _) (fun hHeld => ?_)
  clear hK K
  refine wpAnyH_done (by kernel_rfl) ?_ _
  refine NoPanic.normal ?_
  simp only [Act.put, List.setIfInBounds_toArray, List.set_cons_zero, List.set_cons_succ]
  go_wp2
  go_ret
  refine ⟨_, rfl, ⟨by omega, ?_, World.ownsRow_nil _ 2 _ 1⟩, by omega, hL4.1⟩
  show Row _ _ _ (W3.cells (S3.start3 (lg3 10)) (.slice none 0 0) 0 (siz 10))
  rw [HC.out]
  exact hN
theorem begun_no (a : Int) (h : ¬ Kn a) (w : World) : Calls Tryd.prog 27 #[.int .i64 a] w fun e w' => e = .returned .nilIface ∧ w = w' := by
  obtain ⟨h1, h2, h3, h4, h5⟩ := not_kn h
  clear h
  go_enter Tryd.func27, Tryd.ntmps27
  go_wp2
  go_ret
  exact ⟨rfl, rfl⟩
theorem new_no (a : Int) (h : ¬ Kn a) (w : World) : Calls Tryd.prog 14 #[.int .i64 a] w fun e w' => e = .returned (.tuple #[.pointer none, .int .i64 9]) ∧ w = w' := by
  have hq : ∀ w, (binOp .eql 53 .nilIface .nilIface).run Tryd.prog w = .ok (.bool true) w := fun _ => by rfl
  go_enter Tryd.func14, Tryd.ntmps14
  go_wp2_with fail
  refine (begun_no a h w).mono ?_
  rintro _ w1 ⟨rfl, rfl⟩
  go_wp2
  go_ret2
  exact ⟨rfl, rfl⟩
theorem new_2 (w : World) (hT : Tabs w) : Calls Tryd.prog 14 #[.int .i64 2] w fun e w' => ∃ hp q, e = .returned (.tuple #[.pointer (some ⟨hp, 0, none⟩), .int .i64 0]) ∧ HI w' 2 hp q (.slice none 0 0) [] ∧ w.heap.size ≤ hp ∧ w.heap.size ≤ q ∧ Below w.heap.size w w' := by
  have h2 : 2 ≤ w.heap.size := hT.b.pos
  go_enter Tryd.func14, Tryd.ntmps14
  go_wp2_with fail
  refine (begun_2 w hT).mono ?_
  rintro _ w1 ⟨q1, rfl, hI, hq, hb⟩
  have hqn : ∀ w, (binOp .eql 53 (.iface 75 (.pointer (some ⟨q1, 0, none⟩))) .nilIface).run Tryd.prog w = .ok (.bool false) w := fun _ => by rfl
  have hN := Row.new w1 56 [.iface 75 (.pointer (some ⟨q1, 0, none⟩))]
  have hL := Below.more (Below.refl w1.heap.size w1) (Nat.le_refl _) (.cells [Value.iface 75 (.pointer (some ⟨q1, 0, none⟩))].toArray 56)
  have hI2 := hI.below hL.1
  have hb2 := hb.trans (hL.1.mono hb.size)
  have hsz := hb.size
  clear hL hI hb
  go_wp2
  go_ret2
  exact ⟨_, _, rfl, ⟨by omega, .inl ⟨rfl, hN, hI2⟩⟩, hsz, hq, hb2⟩
theorem new_8 (w : World) (hT : Tabs w) : Calls Tryd.prog 14 #[.int .i64 8] w fun e w' => ∃ hp q, e = .returned (.tuple #[.pointer (some ⟨hp, 0, none⟩), .int .i64 0]) ∧ HI w' 8 hp q (.slice none 0 0) [] ∧ w.heap.size ≤ hp ∧ w.heap.size ≤ q ∧ Below w.heap.size w w' := by
  have h2 : 2 ≤ w.heap.size := hT.b.pos
  go_enter Tryd.func14, Tryd.ntmps14
  go_wp2_with fail
  refine (begun_8 w hT).mono ?_
  rintro _ w1 ⟨q1, rfl, hI, hq, hb⟩
  have hqn : ∀ w, (binOp .eql 53 (.iface 79 (.pointer (some ⟨q1, 0, none⟩))) .nilIface).run Tryd.prog w = .ok (.bool false) w := fun _ => by rfl
  have hN := Row.new w1 56 [.iface 79 (.pointer (some ⟨q1, 0, none⟩))]
  have hL := Below.more (Below.refl w1.heap.size w1) (Nat.le_refl _) (.cells [Value.iface 79 (.pointer (some ⟨q1, 0, none⟩))].toArray 56)
  have hI2 := hI.below hL.1
  have hb2 := hb.trans (hL.1.mono hb.size)
  have hsz := hb.size
  clear hL hI hb
  go_wp2
  go_ret2
  exact ⟨_, _, rfl, ⟨by omega, .inr (.inl ⟨by decide, hN, hI2⟩)⟩, hsz, hq, hb2⟩
theorem new_11 (w : World) (hT : Tabs w) : Calls Tryd.prog 14 #[.int .i64 11] w fun e w' => ∃ hp q, e = .returned (.tuple #[.pointer (some ⟨hp, 0, none⟩), .int .i64 0]) ∧ HI w' 11 hp q (.slice none 0 0) [] ∧ w.heap.size ≤ hp ∧ w.heap.size ≤ q ∧ Below w.heap.size w w' := by
  have h2 : 2 ≤ w.heap.size := hT.b.pos
  go_enter Tryd.func14, Tryd.ntmps14
  go_wp2_with fail
  refine (begun_11 w hT).mono ?_
  rintro _ w1 ⟨q1, rfl, hI, hq, hb⟩
  have hqn : ∀ w, (binOp .eql 53 (.iface 79 (.pointer (some ⟨q1, 0, none⟩))) .nilIface).run Tryd.prog w = .ok (.bool false) w := fun _ => by rfl
  have hN := Row.new w1 56 [.iface 79 (.pointer (some ⟨q1, 0, none⟩))]
  have hL := Below.more (Below.refl w1.heap.size w1) (Nat.le_refl _) (.cells [Value.iface 79 (.pointer (some ⟨q1, 0, none⟩))].toArray 56)
  have hI2 := hI.below hL.1
  have hb2 := hb.trans (hL.1.mono hb.size)
  have hsz := hb.size
  clear hL hI hb
  go_wp2
  go_ret2
  exact ⟨_, _, rfl, ⟨by omega, .inr (.inl ⟨by decide, hN, hI2⟩)⟩, hsz, hq, hb2⟩
theorem new_9 (w : World) (hT : Tabs w) : Calls Tryd.prog 14 #[.int .i64 9] w fun e w' => ∃ hp q, e = .returned (.tuple #[.pointer (some ⟨hp, 0, none⟩), .int .i64 0]) ∧ HI w' 9 hp q (.slice none 0 0) [] ∧ w.heap.size ≤ hp ∧ w.heap.size ≤ q ∧ Below w.heap.size w w' := by
  have h2 : 2 ≤ w.heap.size := hT.b.pos
  go_enter Tryd.func14, Tryd.ntmps14
  go_wp2_with fail
  refine (begun_9 w hT).mono ?_
  rintro _ w1 ⟨q1, rfl, hI, hq, hb⟩
  have hqn : ∀ w, (binOp .eql 53 (.iface 83 (.pointer (some ⟨q1, 0, none⟩))) .nilIface).run Tryd.prog w = .ok (.bool false) w := fun _ => by rfl
  have hN := Row.new w1 56 [.iface 83 (.pointer (some ⟨q1, 0, none⟩))]
  have hL := Below.more (Below.refl w1.heap.size w1) (Nat.le_refl _) (.cells [Value.iface 83 (.pointer (some ⟨q1, 0, none⟩))].toArray 56)
  have hI2 := hI.below hL.1
  have hb2 := hb.trans (hL.1.mono hb.size)
  have hsz := hb.size
  clear hL hI hb
  go_wp2
  go_ret2
  exact ⟨_, _, rfl, ⟨by omega, .inr (.inr ⟨by decide, hN, hI2⟩)⟩, hsz, hq, hb2⟩
theorem new_10 (w : World) (hT : Tabs w) : Calls Tryd.prog 14 #[.int .i64 10] w fun e w' => ∃ hp q, e = .returned (.tuple #[.pointer (some ⟨hp, 0, none⟩), .int .i64 0]) ∧ HI w' 10 hp q (.slice none 0 0) [] ∧ w.heap.size ≤ hp ∧ w.heap.size ≤ q ∧ Below w.heap.size w w' := by
  have h2 : 2 ≤ w.heap.size := hT.b.pos
  go_enter Tryd.func14, Tryd.ntmps14
  go_wp2_with fail
  refine (begun_10 w hT).mono ?_
  rintro _ w1 ⟨q1, rfl, hI, hq, hb⟩
  have hqn : ∀ w, (binOp .eql 53 (.iface 83 (.pointer (some ⟨q1, 0, none⟩))) .nilIface).run Tryd.prog w = .ok (.bool false) w := fun _ => by rfl
  have hN := Row.new w1 56 [.iface 83 (.pointer (some ⟨q1, 0, none⟩))]
  have hL := Below.more (Below.refl w1.heap.size w1) (Nat.le_refl _) (.cells [Value.iface 83 (.pointer (some ⟨q1, 0, none⟩))].toArray 56)
  have hI2 := hI.below hL.1
  have hb2 := hb.trans (hL.1.mono hb.size)
  have hsz := hb.size
  clear hL hI hb
  go_wp2
  go_ret2
  exact ⟨_, _, rfl, ⟨by omega, .inr (.inr ⟨by decide, hN, hI2⟩)⟩, hsz, hq, hb2⟩
theorem new_any (a : Int) (h : Kn a) (w : World) (hT : Tabs w) : Calls Tryd.prog 14 #[.int .i64 a] w fun e w' => ∃ hp q, e = .returned (.tuple #[.pointer (some ⟨hp, 0, none⟩), .int .i64 0]) ∧ HI w' a hp q (.slice none 0 0) [] ∧ w.heap.size ≤ hp ∧ w.heap.size ≤ q ∧ Below w.heap.size w w' := by
  rcases h with rfl | rfl | rfl | rfl | rfl
  · exact new_2 w hT
  · exact new_8 w hT
  · exact new_9 w hT
  · exact new_10 w hT
  · exact new_11 w hT
end Go.Proofs.YtmbaenodibfedaaDoor.S9
