/-
  Proved: for every array a of four 64-bit words, every array b of 32 bytes and every array w of 64 bytes the law ScalarBytes returns true, and its arguments read as before. No conditions of ours; the package's variable starts as its initialiser lays it, as the given card ties it.
-/
import Derived.Test.YtdpahahfcdldcaaDoorRows
import Derived.Test.YtdpahahfcdldcaaDoorCards
import Derived.Test.YtdpahahfcdldcaaDoorTie
import Derived.SevenTiedAt
import Derived.Test.YtdpahahfcdldcaaDoorSclJ
import Derived.WalkKit
import Derived.ProofKit
import Derived.OpenShut
import Derived.ShutString
import Derived.ChangeOld
import Derived.Below
namespace Go.Proofs.YtdpahahfcdldcaaDoor.scalarBytes
open Go.ChangeShapes Go.WideShapes Go.ChangeAt Go.RowKit
open F
set_option linter.unusedVariables false
set_option maxRecDepth 10000

theorem own : ownKnob Tryd.prog.godebug = none := by kernel_rfl
theorem laidOut : laidOutB Tryd.prog = true := by kernel_rfl

theorem wpAnyH_skipL {P : Program} {L : List Oper} {Q : Exit → Act → World → Prop} {md : Region.Mode} {S : World → Prop} {i : Nat} {oi : Oper} {fuel : Nat} {listed : Array Bool} {a : Act} {w : World} (hi : L[i]? = some oi)
    (hs : Region.noSelect L.toArray = true) (hf : Region.free md L.toArray listed i = true) (hr : (Region.ready md L.toArray listed).contains i = true)
    (hQ : ∀ c a w, Q (.panic c) (a.put oi.dst undef) w → Q (.panic c) a w) (hw : Region.wanted oi (yielded L.toArray a.tmps) = false) (hS : S w)
    (h : wpAnyH P md L.toArray Q S fuel (listed.setIfInBounds i true) (a.put oi.dst undef) w) : wpAnyH P md L.toArray Q S (fuel + 1) listed a w :=
  wpAnyH_take (getL hi) hs hf hr hQ (.inr ⟨hw, rfl⟩) hS h

theorem sl64 {w : World} {g : Nat} {t : TypeId} {b : List Nat} (h : Row w g t (C .u8 b)) (hl : b.length = 64) : SlV w (.slice (some ⟨g, 0, none⟩) 64 64) (C .u8 b) := by
  have := h.slAll (by rw [C_length, hl]; unfold maxLen; omega)
  rwa [C_length, hl] at this
set_option maxHeartbeats 8000000 in
theorem walk (A : Nat) (hA : A < 115792089237316195423570985008687907853269984665640564039457584007913129639936) (b : List Nat) (hb : Lo 256 b) (lb : b.length = 32) (V : List Nat) (hV : Lo 256 V) (lV : V.length = 64) (w : World) (hT : OT w) : Calls Tryd.prog 4 #[.agg (C .u64 (wds A)).toArray, .agg (C .u8 b).toArray, .agg (C .u8 V).toArray] w fun e w' => e = .returned (.bool true) ∧ Below w.heap.size w w' := by
  obtain ⟨w2, h2, r1, r2, r3, hL, hS⟩ := rows3 w 24 30 31 (C .u64 (wds A)) (C .u8 b) (C .u8 V)
  have hib : (Tryd.prog.info? 30).map (·.size) = some (C .u8 b).length := by rw [C_length, lb]; exact i32
  have hiV : (Tryd.prog.info? 31).map (·.size) = some (C .u8 V).length := by rw [C_length, lV]; kernel_rfl
  have c1 := sread_any b hb lb
  have c2 := r12read_any b hb lb
  have c3 := swide_any V hV lV
  have c4 := fun (w : World) (g : Nat) (t : TypeId) (h : Row w g t (C .u8 V)) => r12wide_any _ V hV lV w (sl64 h lV)
  have c5 := sbytes_any A hA
  have c6 := r12bytes_any A hA
  have c7 := sclamp_any b hb lb
  have c8 := r12clamp_any b hb lb
  have lN := val_bytes_lt hb lb
  have lC := val_bytes_lt (cl_lo hb) ((cl_length b).trans lb)
  have sC := same4 _ lC
  have lw := mod_Lq_T (val 256 V)
  have sw := same4 _ lw
  have dle := dig_length 256 32 (A % Lq)
  generalize dig 256 32 (A % Lq) = L at *
  have sL : ∀ w, (Op.equalIn 10000 30 (.agg (C .u8 L).toArray) (.agg (C .u8 L).toArray)).run Tryd.prog w = .ok true w := fun w => by rw [eq32 w L L dle dle]; simp
  obtain ⟨D, hD⟩ : ∃ D, (if val 256 b < Lq then val 256 b else 0) = D := ⟨_, rfl⟩
  obtain ⟨ok, hok⟩ : ∃ ok, decide (val 256 b < Lq) = ok := ⟨_, rfl⟩
  have lD : D < 115792089237316195423570985008687907853269984665640564039457584007913129639936 := by rw [← hD]; split <;> omega
  rw [hD, hok] at c1 c2
  have sD := same4 D lD
  clear hD hok lN lC lw
  generalize val 256 (cl b) = X at *
  generalize val 256 V % Lq = Y at *
  go_enter Tryd.func4, Tryd.ntmps4
  go_upto_region 1 with fail
  try simp only [Act.put, List.setIfInBounds_toArray, List.set_cons_zero, List.set_cons_succ, alloc_size, h2]
  clear h2
  go_wp2_with (refine wpList_load_row rfl 30 _ rfl _ rfl _ _ _ _ r2 Tryd.underlying30 rfl hib ?_)
  refine (c1 _ (hT.below hL)).mono ?_
  rintro _ wn ⟨rfl, hb⟩
  replace r1 := r1.belowS hb
  replace r2 := r2.belowS hb
  replace r3 := r3.belowS hb
  replace hL := hL.trans (hb.mono hL.size)
  clear hb
  have q0 := Row.new wn 24 (C .u64 (Z 4))
  have nr1 := r1.lt
  replace r1 := r1.alloc (.cells (C .u64 (Z 4)).toArray 24)
  have nr2 := r2.lt
  replace r2 := r2.alloc (.cells (C .u64 (Z 4)).toArray 24)
  have nr3 := r3.lt
  replace r3 := r3.alloc (.cells (C .u64 (Z 4)).toArray 24)
  replace hL := hL.alloc hL.size (.cells (C .u64 (Z 4)).toArray 24)
  generalize hg : wn.heap.size = g1 at *
  go_upto_region 2 with (first | refine wpList_alloc_row rfl 24 rfl _ z4 ?_ | (refine wpList_store_R rfl 24 _ _ rfl _ (C .u64 (wds D)) (by rw [← hg]; rfl) rfl q0 (ie4 _) (ze4 _) (C_allL _ _) ?_; intro w5 q1 hg5 hz5))
  replace r1 := r1.grown hg5 (by simp; omega)
  replace r2 := r2.grown hg5 (by simp; omega)
  replace r3 := r3.grown hg5 (by simp; omega)
  replace hL := below_grown hL hg5 (by omega) q0.lt
  try rw [hg]
  clear q0 hg5 hz5 hg
  try simp only [Act.put, List.setIfInBounds_toArray, List.set_cons_zero, List.set_cons_succ]
  go_wp2_with (refine wpList_load_row rfl 30 _ rfl _ rfl _ _ _ _ r2 Tryd.underlying30 rfl hib ?_)
  refine (c2 _).mono ?_
  rintro _ wn ⟨rfl, hb⟩
  replace r1 := r1.belowS hb
  replace r2 := r2.belowS hb
  replace r3 := r3.belowS hb
  replace q1 := q1.belowS hb
  replace hL := hL.trans (hb.mono hL.size)
  clear hb
  have q0 := Row.new wn 24 (C .u64 (Z 4))
  have nr1 := r1.lt
  replace r1 := r1.alloc (.cells (C .u64 (Z 4)).toArray 24)
  have nr2 := r2.lt
  replace r2 := r2.alloc (.cells (C .u64 (Z 4)).toArray 24)
  have nr3 := r3.lt
  replace r3 := r3.alloc (.cells (C .u64 (Z 4)).toArray 24)
  have nq1 := q1.lt
  replace q1 := q1.alloc (.cells (C .u64 (Z 4)).toArray 24)
  replace hL := hL.alloc hL.size (.cells (C .u64 (Z 4)).toArray 24)
  generalize hg : wn.heap.size = g2 at *
  go_upto_region 3 with (first | refine wpList_alloc_row rfl 24 rfl _ z4 ?_ | (refine wpList_store_R rfl 24 _ _ rfl _ (C .u64 (wds D)) (by rw [← hg]; rfl) rfl q0 (ie4 _) (ze4 _) (C_allL _ _) ?_; intro w5 q2 hg5 hz5))
  replace r1 := r1.grown hg5 (by simp; omega)
  replace r2 := r2.grown hg5 (by simp; omega)
  replace r3 := r3.grown hg5 (by simp; omega)
  replace q1 := q1.grown hg5 (by simp; omega)
  replace hL := below_grown hL hg5 (by omega) q0.lt
  try rw [hg]
  clear q0 hg5 hz5 hg
  try simp only [Act.put, List.setIfInBounds_toArray, List.set_cons_zero, List.set_cons_succ]
  replace r1 := r1.drew
  replace r2 := r2.drew
  replace r3 := r3.drew
  replace q1 := q1.drew
  replace q2 := q2.drew
  replace hL := below_drawn hL
  refine wp_region_noPanic ?_
  refine wp_region_held_drew (S := fun w' => Row w' w.heap.size 24 (C .u64 (wds A)) ∧ Row w' (w.heap.size + 1) 30 (C .u8 b) ∧ Row w' (w.heap.size + 1 + 1) 31 (C .u8 V) ∧ Row w' g1 24 (C .u64 (wds D)) ∧ Row w' g2 24 (C .u64 (wds D))) (by kernel_rfl) ⟨r1, r2, r3, q1, q2⟩ (fun hHeld => ?_)
  refine allReadyH_oneL (i := 0) (by kernel_rfl) rfl (by rfl) (fun K hK => ?_)
  go_simp
  refine (alive12_true _ (hT.below hL)).mono ?_
  rintro _ wn ⟨rfl, hb⟩
  replace r1 := r1.belowS hb
  replace r2 := r2.belowS hb
  replace r3 := r3.belowS hb
  replace q1 := q1.belowS hb
  replace q2 := q2.belowS hb
  replace hL := hL.trans (hb.mono hL.size)
  clear hb
  refine hK.out _ _ ⟨r1, r2, r3, q1, q2⟩ (fun hHeld => ?_)
  clear hK K
  refine wpAnyH_takeL (i := 1) (v := ?v1) rfl (by kernel_rfl) (by kernel_rfl) (by kernel_rfl) (fun _ _ _ h => h) (by rfl) ?h1 (by assumption) ?_
  case h1 => intro w hSw; go_simp <;> with_reducible rfl
  simp only [Act.put, List.setIfInBounds_toArray, List.set_cons_zero, List.set_cons_succ]
  refine wpAnyH_takeL (i := 2) (v := (.agg (C .u64 (wds D)).toArray)) rfl (by kernel_rfl) (by kernel_rfl) (by kernel_rfl) (fun _ _ _ h => h) (by rfl) ?h2 (by assumption) ?_
  case h2 => intro w hSw; exact exec_load_R 24 _ rfl rfl hSw.2.2.2.1 Tryd.underlying24 (ie4 D)
  simp only [Act.put, List.setIfInBounds_toArray, List.set_cons_zero, List.set_cons_succ]
  refine wpAnyH_takeL (i := 3) (v := (.agg (C .u64 (wds D)).toArray)) rfl (by kernel_rfl) (by kernel_rfl) (by kernel_rfl) (fun _ _ _ h => h) (by rfl) ?h3 (by assumption) ?_
  case h3 => intro w hSw; exact exec_load_R 24 _ rfl rfl hSw.2.2.2.2 Tryd.underlying24 (ie4 D)
  simp only [Act.put, List.setIfInBounds_toArray, List.set_cons_zero, List.set_cons_succ]
  refine wpAnyH_takeL (i := 4) (v := ?v4) rfl (by kernel_rfl) (by kernel_rfl) (by kernel_rfl) (fun _ _ _ h => h) (by rfl) ?h4 (by assumption) ?_
  case h4 => intro w hSw; go_simp <;> with_reducible rfl
  simp only [Act.put, List.setIfInBounds_toArray, List.set_cons_zero, List.set_cons_succ]
  refine wpAnyH_takeL (i := 5) (v := ?v5) rfl (by kernel_rfl) (by kernel_rfl) (by kernel_rfl) (fun _ _ _ h => h) (by rfl) ?h5 (by assumption) ?_
  case h5 => intro w hSw; go_simp <;> with_reducible rfl
  simp only [Act.put, List.setIfInBounds_toArray, List.set_cons_zero, List.set_cons_succ]
  refine wpAnyH_takeL (i := 6) (v := ?v6) rfl (by kernel_rfl) (by kernel_rfl) (by kernel_rfl) (fun _ _ _ h => h) (by rfl) ?h6 (by assumption) ?_
  case h6 => intro w hSw; go_simp <;> with_reducible rfl
  simp only [Act.put, List.setIfInBounds_toArray, List.set_cons_zero, List.set_cons_succ]
  refine wpAnyH_takeL (i := 7) (v := ?v7) rfl (by kernel_rfl) (by kernel_rfl) (by kernel_rfl) (fun _ _ _ h => h) (by rfl) ?h7 (by assumption) ?_
  case h7 => intro w hSw; go_simp <;> with_reducible rfl
  simp only [Act.put, List.setIfInBounds_toArray, List.set_cons_zero, List.set_cons_succ]
  refine wpAnyH_takeL (i := 8) (v := ?v8) rfl (by kernel_rfl) (by kernel_rfl) (by kernel_rfl) (fun _ _ _ h => h) (by rfl) ?h8 (by assumption) ?_
  case h8 => intro w hSw; go_simp <;> with_reducible rfl
  simp only [Act.put, List.setIfInBounds_toArray, List.set_cons_zero, List.set_cons_succ]
  refine wpAnyH_takeL (i := 9) (v := ?v9) rfl (by kernel_rfl) (by kernel_rfl) (by kernel_rfl) (fun _ _ _ h => h) (by rfl) ?h9 (by assumption) ?_
  case h9 => intro w hSw; go_simp <;> with_reducible rfl
  simp only [Act.put, List.setIfInBounds_toArray, List.set_cons_zero, List.set_cons_succ]
  refine wpAnyH_takeL (i := 10) (v := ?v10) rfl (by kernel_rfl) (by kernel_rfl) (by kernel_rfl) (fun _ _ _ h => h) (by rfl) ?h10 (by assumption) ?_
  case h10 => intro w hSw; go_simp <;> with_reducible rfl
  simp only [Act.put, List.setIfInBounds_toArray, List.set_cons_zero, List.set_cons_succ]
  refine wpAnyH_takeL (i := 11) (v := ?v11) rfl (by kernel_rfl) (by kernel_rfl) (by kernel_rfl) (fun _ _ _ h => h) (by rfl) ?h11 (by assumption) ?_
  case h11 => intro w hSw; go_simp <;> with_reducible rfl
  simp only [Act.put, List.setIfInBounds_toArray, List.set_cons_zero, List.set_cons_succ]
  refine wpAnyH_takeL (i := 12) (v := (.agg (C .u8 V).toArray)) rfl (by kernel_rfl) (by kernel_rfl) (by kernel_rfl) (fun _ _ _ h => h) (by rfl) ?h12 (by assumption) ?_
  case h12 => intro w hSw; exact exec_load_R 31 _ rfl rfl hSw.2.2.1 Tryd.underlying31 hiV
  simp only [Act.put, List.setIfInBounds_toArray, List.set_cons_zero, List.set_cons_succ]
  refine wpAnyH_takeL (i := 14) (v := ?v14) rfl (by kernel_rfl) (by kernel_rfl) (by kernel_rfl) (fun _ _ _ h => h) (by rfl) ?h14 (by assumption) ?_
  case h14 => intro w hSw; go_simp <;> with_reducible rfl
  simp only [Act.put, List.setIfInBounds_toArray, List.set_cons_zero, List.set_cons_succ]
  refine allReadyH_oneL (i := 13) (by kernel_rfl) rfl (by rfl) (fun K hK => ?_)
  go_simp
  refine (c3 _ (hT.below hL)).mono ?_
  rintro _ wn ⟨rfl, hb⟩
  replace r1 := r1.belowS hb
  replace r2 := r2.belowS hb
  replace r3 := r3.belowS hb
  replace q1 := q1.belowS hb
  replace q2 := q2.belowS hb
  replace hL := hL.trans (hb.mono hL.size)
  clear hb
  refine hK.out _ _ ⟨r1, r2, r3, q1, q2⟩ (fun hHeld => ?_)
  clear hK K
  refine allReadyH_oneL (i := 15) (by kernel_rfl) rfl (by rfl) (fun K hK => ?_)
  go_simp
  refine (c4 _ _ _ r3).mono ?_
  rintro _ wn ⟨rfl, hb⟩
  replace r1 := r1.belowS hb
  replace r2 := r2.belowS hb
  replace r3 := r3.belowS hb
  replace q1 := q1.belowS hb
  replace q2 := q2.belowS hb
  replace hL := hL.trans (hb.mono hL.size)
  clear hb
  refine hK.out _ _ ⟨r1, r2, r3, q1, q2⟩ (fun hHeld => ?_)
  clear hK K
  refine wpAnyH_takeL (i := 16) (v := ?v16) rfl (by kernel_rfl) (by kernel_rfl) (by kernel_rfl) (fun _ _ _ h => h) (by rfl) ?h16 (by assumption) ?_
  case h16 => intro w hSw; go_simp <;> with_reducible rfl
  simp only [Act.put, List.setIfInBounds_toArray, List.set_cons_zero, List.set_cons_succ]
  refine wpAnyH_takeL (i := 17) (v := ?v17) rfl (by kernel_rfl) (by kernel_rfl) (by kernel_rfl) (fun _ _ _ h => h) (by rfl) ?h17 (by assumption) ?_
  case h17 => intro w hSw; go_simp <;> with_reducible rfl
  simp only [Act.put, List.setIfInBounds_toArray, List.set_cons_zero, List.set_cons_succ]
  refine wpAnyH_takeL (i := 18) (v := ?v18) rfl (by kernel_rfl) (by kernel_rfl) (by kernel_rfl) (fun _ _ _ h => h) (by rfl) ?h18 (by assumption) ?_
  case h18 => intro w hSw; go_simp <;> with_reducible rfl
  simp only [Act.put, List.setIfInBounds_toArray, List.set_cons_zero, List.set_cons_succ]
  refine wpAnyH_takeL (i := 19) (v := (.agg (C .u64 (wds A)).toArray)) rfl (by kernel_rfl) (by kernel_rfl) (by kernel_rfl) (fun _ _ _ h => h) (by rfl) ?h19 (by assumption) ?_
  case h19 => intro w hSw; exact exec_load_R 24 _ rfl rfl hSw.1 Tryd.underlying24 (ie4 A)
  simp only [Act.put, List.setIfInBounds_toArray, List.set_cons_zero, List.set_cons_succ]
  refine wpAnyH_takeL (i := 21) (v := (.agg (C .u64 (wds A)).toArray)) rfl (by kernel_rfl) (by kernel_rfl) (by kernel_rfl) (fun _ _ _ h => h) (by rfl) ?h21 (by assumption) ?_
  case h21 => intro w hSw; exact exec_load_R 24 _ rfl rfl hSw.1 Tryd.underlying24 (ie4 A)
  simp only [Act.put, List.setIfInBounds_toArray, List.set_cons_zero, List.set_cons_succ]
  refine allReadyH_oneL (i := 20) (by kernel_rfl) rfl (by rfl) (fun K hK => ?_)
  go_simp
  refine (c5 _ (hT.below hL)).mono ?_
  rintro _ wn ⟨rfl, hb⟩
  replace r1 := r1.belowS hb
  replace r2 := r2.belowS hb
  replace r3 := r3.belowS hb
  replace q1 := q1.belowS hb
  replace q2 := q2.belowS hb
  replace hL := hL.trans (hb.mono hL.size)
  clear hb
  refine hK.out _ _ ⟨r1, r2, r3, q1, q2⟩ (fun hHeld => ?_)
  clear hK K
  refine allReadyH_oneL (i := 22) (by kernel_rfl) rfl (by rfl) (fun K hK => ?_)
  go_simp
  refine (c6 _).mono ?_
  rintro _ wn ⟨rfl, hb⟩
  replace r1 := r1.belowS hb
  replace r2 := r2.belowS hb
  replace r3 := r3.belowS hb
  replace q1 := q1.belowS hb
  replace q2 := q2.belowS hb
  replace hL := hL.trans (hb.mono hL.size)
  clear hb
  refine hK.out _ _ ⟨r1, r2, r3, q1, q2⟩ (fun hHeld => ?_)
  clear hK K
  refine wpAnyH_takeL (i := 23) (v := ?v23) rfl (by kernel_rfl) (by kernel_rfl) (by kernel_rfl) (fun _ _ _ h => h) (by rfl) ?h23 (by assumption) ?_
  case h23 => intro w hSw; go_simp <;> with_reducible rfl
  simp only [Act.put, List.setIfInBounds_toArray, List.set_cons_zero, List.set_cons_succ]
  refine wpAnyH_takeL (i := 24) (v := ?v24) rfl (by kernel_rfl) (by kernel_rfl) (by kernel_rfl) (fun _ _ _ h => h) (by rfl) ?h24 (by assumption) ?_
  case h24 => intro w hSw; go_simp <;> with_reducible rfl
  simp only [Act.put, List.setIfInBounds_toArray, List.set_cons_zero, List.set_cons_succ]
  refine wpAnyH_takeL (i := 25) (v := ?v25) rfl (by kernel_rfl) (by kernel_rfl) (by kernel_rfl) (fun _ _ _ h => h) (by rfl) ?h25 (by assumption) ?_
  case h25 => intro w hSw; go_simp <;> with_reducible rfl
  simp only [Act.put, List.setIfInBounds_toArray, List.set_cons_zero, List.set_cons_succ]
  refine wpAnyH_takeL (i := 26) (v := (.agg (C .u8 b).toArray)) rfl (by kernel_rfl) (by kernel_rfl) (by kernel_rfl) (fun _ _ _ h => h) (by rfl) ?h26 (by assumption) ?_
  case h26 => intro w hSw; exact exec_load_R 30 _ rfl rfl hSw.2.1 Tryd.underlying30 hib
  simp only [Act.put, List.setIfInBounds_toArray, List.set_cons_zero, List.set_cons_succ]
  refine wpAnyH_takeL (i := 28) (v := (.agg (C .u8 b).toArray)) rfl (by kernel_rfl) (by kernel_rfl) (by kernel_rfl) (fun _ _ _ h => h) (by rfl) ?h28 (by assumption) ?_
  case h28 => intro w hSw; exact exec_load_R 30 _ rfl rfl hSw.2.1 Tryd.underlying30 hib
  simp only [Act.put, List.setIfInBounds_toArray, List.set_cons_zero, List.set_cons_succ]
  refine allReadyH_oneL (i := 27) (by kernel_rfl) rfl (by rfl) (fun K hK => ?_)
  go_simp
  refine (c7 _).mono ?_
  rintro _ wn ⟨rfl, hb⟩
  replace r1 := r1.belowS hb
  replace r2 := r2.belowS hb
  replace r3 := r3.belowS hb
  replace q1 := q1.belowS hb
  replace q2 := q2.belowS hb
  replace hL := hL.trans (hb.mono hL.size)
  clear hb
  refine hK.out _ _ ⟨r1, r2, r3, q1, q2⟩ (fun hHeld => ?_)
  clear hK K
  refine allReadyH_oneL (i := 29) (by kernel_rfl) rfl (by rfl) (fun K hK => ?_)
  go_simp
  refine (c8 _).mono ?_
  rintro _ wn ⟨rfl, hb⟩
  replace r1 := r1.belowS hb
  replace r2 := r2.belowS hb
  replace r3 := r3.belowS hb
  replace q1 := q1.belowS hb
  replace q2 := q2.belowS hb
  replace hL := hL.trans (hb.mono hL.size)
  clear hb
  refine hK.out _ _ ⟨r1, r2, r3, q1, q2⟩ (fun hHeld => ?_)
  clear hK K
  refine wpAnyH_takeL (i := 30) (v := ?v30) rfl (by kernel_rfl) (by kernel_rfl) (by kernel_rfl) (fun _ _ _ h => h) (by rfl) ?h30 (by assumption) ?_
  case h30 => intro w hSw; go_simp <;> with_reducible rfl
  simp only [Act.put, List.setIfInBounds_toArray, List.set_cons_zero, List.set_cons_succ]
  refine wpAnyH_takeL (i := 31) (v := ?v31) rfl (by kernel_rfl) (by kernel_rfl) (by kernel_rfl) (fun _ _ _ h => h) (by rfl) ?h31 (by assumption) ?_
  case h31 => intro w hSw; go_simp <;> with_reducible rfl
  simp only [Act.put, List.setIfInBounds_toArray, List.set_cons_zero, List.set_cons_succ]
  refine wpAnyH_takeL (i := 32) (v := ?v32) rfl (by kernel_rfl) (by kernel_rfl) (by kernel_rfl) (fun _ _ _ h => h) (by rfl) ?h32 (by assumption) ?_
  case h32 => intro w hSw; go_simp <;> with_reducible rfl
  simp only [Act.put, List.setIfInBounds_toArray, List.set_cons_zero, List.set_cons_succ]
  refine wpAnyH_done (by kernel_rfl) ?_ _
  refine NoPanic.normal ?_
  go_wp2
  go_ret
  exact ⟨rfl, hL⟩

set_option maxRecDepth 100000 in
theorem lifted (os : Os) (started : os.Started) (H : Type) (enc : TypeId × Value → H) :
    ReturnsInHanded {} Tryd.checked os 4 .any (fun w args => (Rows.scalarBytesSpec.pre enc Tryd.prog Tryd.f4 [] false w args ∧ laidMetH Tryd.prog F.laid1 w) ∧ sizedMet enc Tryd.prog Tryd.f4 (OpenSpec.ofChange Rows.scalarBytesSpec) false w args) (Rows.scalarBytesSpec.post enc Tryd.prog Tryd.f4 false true false false) := by
  refine returnsInHanded_of_change_and (C := Tryd.checked) (X := fun w _ => laidMetH Tryd.prog F.laid1 w) (fun _ _ _ hh h => h.of_heap hh) own started (by kernel_rfl) Tryd.func4
    (ChangeSpec.witness_shaped (enc := enc) (C := Tryd.checked) (os := os) (X := fun w _ => laidMetH Tryd.prog F.laid1 w) false (World.doorLaid Tryd.prog 400 os) #[.agg (C .u64 (Z 4)).toArray, .agg (C .u8 (Z 32)).toArray, .agg (C .u8 (Z 64)).toArray] 8 rfl (World.shaped_of_RefB (by kernel_rfl) (by kernel_rfl)) (by kernel_rfl) (by kernel_rfl) (by kernel_rfl) (F.door_met os _)) ?_
  intro W base args ds gs before hval0 hW _ _ hLd _
  have hval : ∀ (j : Nat) t v, Tryd.f4.params[j]? = some t → args[j]? = some v → Value.okWide Tryd.prog W .any base t v := hval0
  have hW' := hW
  obtain ⟨p, q, hA0, hV, rfl, hfz, hnd⟩ := hW
  have hA : DataW.TrodAll enc Tryd.prog W 0 (fun _ => true) true Tryd.f4.params.toList args.toList ds p := hA0
  rw [Tryd.params4] at hA hval
  obtain ⟨v0, vs0, d0, ds0, p0, q0, hargs, rfl, rfl, h0, r0⟩ := trodAll_cons hA
  obtain ⟨v1, vs1, d1, ds1, p1, q1, rfl, rfl, rfl, h1, r1⟩ := trodAll_cons r0
  obtain ⟨v2, vs2, d2, ds2, p2, q2, rfl, rfl, rfl, h2, r2⟩ := trodAll_cons r1
  obtain ⟨rfl, rfl, rfl⟩ := trodAll_nil r2
  obtain rfl : args = #[v0, v1, v2] := by cases args; simp_all
  obtain ⟨rfl, rfl⟩ := trodVars_none hV
  have k0 := h0
  have lt0 : ∀ x ∈ p0, x.block < W.heap.size := by obtain ⟨m, hm⟩ := k0; exact DataW.trod_lt m _ _ _ hm
  have k1 := h1
  have lt1 : ∀ x ∈ p1, x.block < W.heap.size := by obtain ⟨m, hm⟩ := k1; exact DataW.trod_lt m _ _ _ hm
  have k2 := h2
  have lt2 : ∀ x ∈ p2, x.block < W.heap.size := by obtain ⟨m, hm⟩ := k2; exact DataW.trod_lt m _ _ _ hm
  obtain ⟨z0, rfl, hl0, hz0⟩ := open_array Tryd.underlying24 Tryd.underlying22 (by kernel_rfl) (by kernel_rfl) (hval 0 24 v0 rfl rfl) h0
  obtain ⟨z1, rfl, hl1, hz1⟩ := open_array Tryd.underlying30 Tryd.underlying5 (by kernel_rfl) (by kernel_rfl) (hval 1 30 v1 rfl rfl) h1
  obtain ⟨z2, rfl, hl2, hz2⟩ := open_array Tryd.underlying31 Tryd.underlying5 (by kernel_rfl) (by kernel_rfl) (hval 2 31 v2 rfl rfl) h2
  obtain ⟨n0, b0, e0⟩ := elem_of hl0 hz0
  obtain ⟨n1, e1, l1, b1⟩ := arr_bytes hz1
  obtain ⟨n2, e2, l2, b2⟩ := arr_bytes hz2
  rw [e0, e1, e2] at hW' ⊢
  rw [e0] at k0
  rw [e1] at k1
  rw [e2] at k2
  clear hA0 hval0
  refine (walk n0 b0 n1 b1 (l1.trans hl1) n2 b2 (l2.trans hl2) W (F.of_laid hLd)).mono fun e W' ⟨he, bel⟩ => ?_
  subst he
  exact ⟨_, rfl, _, _, _, [], _, [], hW', trodAll_mk1 (shut_bool Tryd.underlying4 _), (trodAll_cons_mk (Below.trod laidOut (by kernel_rfl) (of_decide_eq_true (by kernel_rfl)) k0 bel lt0) (trodAll_cons_mk (Below.trod laidOut (by kernel_rfl) (of_decide_eq_true (by kernel_rfl)) k1 bel lt1) (trodAll_cons_mk (Below.trod laidOut (by kernel_rfl) (of_decide_eq_true (by kernel_rfl)) k2 bel lt2) trodAll_mk0))), rfl, bel.frame _, fun h => by cases h⟩

theorem over : Rows.scalarBytesRow.holds Tryd.pinned (OpenSpec.ofChange Rows.scalarBytesSpec) :=
  OpenClaim.holds_of_wide 4 Tryd.f4 rfl rfl rfl rfl rfl rfl rfl ⟨rfl, rfl, rfl, rfl, rfl⟩ rfl rfl rfl rfl rfl (by kernel_rfl) Tryd.func4 (by kernel_rfl)
    (of_decide_eq_true (by kernel_rfl)) (by unfold Func.isWrapper; first | (rw [if_pos (by decide +kernel)]; kernel_rfl) | (rw [if_neg (by decide +kernel)]; exact ⟨rfl, rfl⟩))
    (fun os started H enc _ => lifted os started H enc)

end Go.Proofs.YtdpahahfcdldcaaDoor.scalarBytes
namespace Go.Proofs.YtdpahahfcdldcaaDoor
/-- The given statement. -/
theorem scalarBytes_proved : Rows.ScalarBytesCardSaid :=
  Claim7.holds_tied_plain_at .later [] [.data] true (true, "12d6fb0e3130be978e13103ef964bff3f25dd06b13ba6b86c892b31fee49d019") false
    scalarBytes.over (fun _ h => by cases h) (by kernel_rfl) (fun _ h => by cases h) scalarBytes_row_tie rfl ⟨rfl, rfl⟩ (by kernel_rfl) rfl
    (fun f fn hf hfn => by
      obtain rfl : f = 4 := Option.some.inj ((show Tryd.prog.funcNamed "affiant/affiantlaw12.ScalarBytes" = some 4 by kernel_rfl).symm.trans hf) |>.symm
      obtain rfl : fn = Tryd.f4 := (Option.some.inj (Tryd.func4.symm.trans hfn)).symm
      exact ⟨by kernel_rfl, fun j t ht => by
        rw [Tryd.params4] at ht
        have hm : t ∈ ([24, 30, 31] : List TypeId) := by simpa using Array.mem_of_getElem? ht
        have hall : (([24, 30, 31] : List TypeId).all fun u => !Tryd.prog.wantsStandIn u) = true := by kernel_rfl
        exact (show Tryd.prog.wantsStandIn t = false by simpa using List.all_eq_true.1 hall t hm)⟩)
    (by kernel_rfl)
end Go.Proofs.YtdpahahfcdldcaaDoor
