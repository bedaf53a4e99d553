/-
  Proved: for every array a of four 64-bit words the law FieldInverse returns true, and its argument reads as before. No conditions of ours; the package's variables start as their initialisers lay them, as the given card ties them.
-/
import Derived.Test.YtgakpgcjninbgaaDoorRows
import Derived.Test.YtgakpgcjninbgaaDoorCards
import Derived.Test.YtgakpgcjninbgaaDoorTie
import Derived.SevenTiedAt
import Derived.Test.YtgakpgcjninbgaaDoorLay11
import Derived.WalkKit
import Derived.ProofKit
import Derived.OpenShut
import Derived.ShutString
import Derived.ChangeOld
import Derived.Below
namespace Go.Proofs.YtgakpgcjninbgaaDoor.fieldInverse
open Go.ChangeShapes Go.WideShapes Go.ChangeAt Go.RowKit
open F
set_option linter.unusedVariables false
set_option maxRecDepth 10000

theorem own : ownKnob Tryd.prog.godebug = none := by kernel_rfl
theorem laidOut : laidOutB Tryd.prog = true := by kernel_rfl

theorem wpAnyH_skipL {P : Program} {L : List Oper} {Q : Exit → Act → World → Prop} {md : Region.Mode} {S : World → Prop} {i : Nat} {oi : Oper} {fuel : Nat} {listed : Array Bool} {a : Act} {w : World} (hi : L[i]? = some oi)
    (hs : Region.noSelect L.toArray = true) (hf : Region.free md L.toArray listed i = true) (hr : (Region.ready md L.toArray listed).contains i = true)
    (hQ : ∀ c a w, Q (.panic c) (a.put oi.dst undef) w → Q (.panic c) a w) (hw : Region.wanted oi (yielded L.toArray a.tmps) = false) (hS : S w)
    (h : wpAnyH P md L.toArray Q S fuel (listed.setIfInBounds i true) (a.put oi.dst undef) w) : wpAnyH P md L.toArray Q S (fuel + 1) listed a w :=
  wpAnyH_take (getL hi) hs hf hr hQ (.inr ⟨hw, rfl⟩) hS h

theorem rt_mod (A : Nat) : rt (A % P) = rt A := by
  unfold rt
  rw [← Nat.pow_mod, Nat.mod_mod]
set_option maxHeartbeats 8000000 in
theorem walk (A : Nat) (hA : A < 115792089237316195423570985008687907853269984665640564039457584007913129639936) (w : World) (hT : Tabs w) (hV : Glob w 3 (P - 2)) : Calls Tryd.prog 9 #[.agg (C .u64 (wds A)).toArray] w fun e w' => e = .returned (.bool true) ∧ Below w.heap.size w w' := by
  have r1 := Row.new w 24 (C .u64 (wds A))
  have hL := (Below.more (Below.refl w.heap.size w) (Nat.le_refl _) (.cells (C .u64 (wds A)).toArray 24)).1
  generalize h2 : w.alloc (.cells (C .u64 (wds A)).toArray 24) = w2 at *
  have c1 := finv_el A hA
  have c2 := reduce_el A hA
  have c3 := fmul_el A A hA hA
  have c4 := froot_el (A * A % P) (mod_lt_T _)
  have c5 := fsub_el 0 A (by decide) hA
  have c6 := froot_el A hA
  have c7 := fmul_el A (A ^ (P - 2) % P) hA (mod_lt_T _)
  have lq2 := rt_lt A
  have c8 := fmul_el (rt A).1 (rt A).1 lq2 lq2
  have lq := rt_lt (A * A % P)
  have hz0 : A % P = 0 → A ^ (P - 2) % P = 0 := fun h => by
    rw [Nat.pow_mod, h, Nat.zero_pow (by decide +kernel), Nat.zero_mod]
  have hinv : A % P ≠ 0 → A * (A ^ (P - 2) % P) % P = 1 := fun h => by rw [Nat.mul_mod_mod]; exact inv_ok h
  have hself := rt_self A
  rw [← rt_mod (A * A)] at hself
  have hneg : (0 % P + (P - A % P)) % P = (P - A % P) % P := by rw [Nat.zero_mod, Nat.zero_add]
  rw [hneg] at c5
  have ht2 := fun h => @rt_true A h
  have lN : (P - A % P) % P < 115792089237316195423570985008687907853269984665640564039457584007913129639936 := mod_lt_T _
  have lR := mod_lt_T A
  have lI := mod_lt_T (A ^ (P - 2))
  have lM := mod_lt_T (A * A)
  have s0 := fun (w : World) => eq4 w (A % P) 0 lR (by decide)
  obtain ⟨q, hq⟩ : ∃ q, (rt (A * A % P)).1 = q := ⟨_, rfl⟩
  obtain ⟨ok, hok⟩ : ∃ ok, (rt (A * A % P)).2 = ok := ⟨_, rfl⟩
  rw [hq] at c4 hself lq
  rw [hok] at c4 hself
  obtain ⟨rfl, hself⟩ := hself
  clear hq hok
  obtain ⟨q2, hq2⟩ : ∃ q, (rt A).1 = q := ⟨_, rfl⟩
  obtain ⟨ok2, hok2⟩ : ∃ ok, (rt A).2 = ok := ⟨_, rfl⟩
  rw [hq2] at c6 c8 lq2
  rw [hok2] at c6
  have ht3 : ok2 = true → q2 % 2 = 0 ∧ q2 * q2 % P = A % P := fun h => by
    obtain ⟨k1, k2, k3⟩ := ht2 (hok2.trans h)
    rw [hq2] at k2 k3
    exact ⟨k2, k3⟩
  clear ht2 hq2 hok2
  obtain ⟨N, hN⟩ : ∃ N, (P - A % P) % P = N := ⟨_, rfl⟩
  rw [hN] at c5 hself lN
  clear hN hneg
  obtain ⟨M, hM⟩ : ∃ M, A * A % P = M := ⟨_, rfl⟩
  rw [hM] at c3 c4 lM
  clear hM
  obtain ⟨I, hI⟩ : ∃ I, A ^ (P - 2) % P = I := ⟨_, rfl⟩
  rw [hI] at c1 c7 hz0 hinv lI
  clear hI
  obtain ⟨R, hR⟩ : ∃ R, A % P = R := ⟨_, rfl⟩
  rw [hR] at c2 hz0 hinv hself ht3 lR s0
  clear hR
  have sq := same4 q lq
  have sR := same4 R lR
  have s1 : ∀ w, (Op.equalIn 10000 24 (.agg (C .u64 (wds 1)).toArray) (.agg #[.int .u64 1, .int .u64 0, .int .u64 0, .int .u64 0])).run Tryd.prog w = .ok true w := fun w => same4 1 (by decide) w
  go_enter Tryd.func9, Tryd.ntmps9
  go_upto_region 1 with fail
  try simp only [Act.put, List.setIfInBounds_toArray, List.set_cons_zero, List.set_cons_succ, alloc_size, h2]
  clear h2
  go_wp2_with (refine wpList_load_row rfl 24 _ rfl _ rfl _ _ _ _ r1 Tryd.underlying24 rfl (ie4 A) ?_)
  refine (c1 _ (hT.below hL).p (hV.below hL)).mono ?_
  rintro _ wn ⟨rfl, hb⟩
  replace r1 := r1.belowS hb
  replace hL := hL.trans (hb.mono hL.size)
  clear hb
  have q0 := Row.new wn 24 (C .u64 (Z 4))
  have nr1 := r1.lt
  replace r1 := r1.alloc (.cells (C .u64 (Z 4)).toArray 24)
  replace hL := hL.alloc hL.size (.cells (C .u64 (Z 4)).toArray 24)
  generalize hg : wn.heap.size = g1 at *
  go_upto_region 2 with (first | refine wpList_alloc_row rfl 24 rfl _ z4 ?_ | (refine wpList_store_R rfl 24 _ _ rfl _ (C .u64 (wds I)) (by rw [← hg]; rfl) rfl q0 (ie4 _) (ze4 _) (C_allL _ _) ?_; intro w5 q1 hg5 hz5))
  replace r1 := r1.grown hg5 (by simp; omega)
  replace hL := below_grown hL hg5 (by omega) q0.lt
  try rw [hg]
  clear q0 hg5 hz5 hg
  try simp only [Act.put, List.setIfInBounds_toArray, List.set_cons_zero, List.set_cons_succ]
  go_wp2_with (refine wpList_load_row rfl 24 _ rfl _ rfl _ _ _ _ r1 Tryd.underlying24 rfl (ie4 A) ?_)
  refine (c2 _ (hT.below hL).p).mono ?_
  rintro _ wn ⟨rfl, hb⟩
  replace r1 := r1.belowS hb
  replace q1 := q1.belowS hb
  replace hL := hL.trans (hb.mono hL.size)
  clear hb
  by_cases hz : R = 0
  · have hI0 := hz0 hz
    subst hz hI0
    have s00 : ∀ w, (Op.equalIn 10000 24 (.agg (C .u64 (wds 0)).toArray) (.agg #[.int .u64 0, .int .u64 0, .int .u64 0, .int .u64 0])).run Tryd.prog w = .ok true w := fun w => same4 0 (by decide) w
    have s01 : ∀ w, (Op.equalIn 10000 24 (.agg #[.int .u64 0, .int .u64 0, .int .u64 0, .int .u64 0]) (.agg #[.int .u64 0, .int .u64 0, .int .u64 0, .int .u64 0])).run Tryd.prog w = .ok true w := fun w => same4 0 (by decide) w
    clear s0 sR c1 c2 c3 c4 c5 c6 c7 c8
    go_wp2_with fail
    refine (alive11_true _ (hT.below hL)).mono ?_
    rintro _ wn2 ⟨rfl, hb⟩
    replace q1 := q1.belowS hb
    replace hL := hL.trans (hb.mono hL.size)
    clear hb
    have k0 : wn2.cell? ⟨g1, 0, none⟩ = some (.int .u64 0) := (q1.cell 0).trans (by kernel_rfl)
    have k1 : wn2.cell? ⟨g1, 1, none⟩ = some (.int .u64 0) := (q1.cell 1).trans (by kernel_rfl)
    have k2 : wn2.cell? ⟨g1, 2, none⟩ = some (.int .u64 0) := (q1.cell 2).trans (by kernel_rfl)
    have k3 : wn2.cell? ⟨g1, 3, none⟩ = some (.int .u64 0) := (q1.cell 3).trans (by kernel_rfl)
    go_wp2
    go_ret
    exact ⟨rfl, hL⟩
  · have s0' : ∀ w, (Op.equalIn 10000 24 (.agg (C .u64 (wds R)).toArray) (.agg #[.int .u64 0, .int .u64 0, .int .u64 0, .int .u64 0])).run Tryd.prog w = .ok false w := fun w => (s0 w).trans (by rw [decide_eq_false hz])
    have hA1 := hinv hz
    rw [hA1] at c7
    clear s0 hz0 hinv hA1
    go_upto_region 4 with fail
    go_wp2_with (refine wpList_load_row rfl 24 _ rfl _ rfl _ _ _ _ r1 Tryd.underlying24 rfl (ie4 A) ?_)
    refine (c3 _ (hT.below hL).p).mono ?_
    rintro _ wn ⟨rfl, hb⟩
    replace r1 := r1.belowS hb
    replace q1 := q1.belowS hb
    replace hL := hL.trans (hb.mono hL.size)
    clear hb
    go_wp2_with fail
    refine (c4 _ (hT.below hL)).mono ?_
    rintro _ wn ⟨rfl, hb⟩
    replace r1 := r1.belowS hb
    replace q1 := q1.belowS hb
    replace hL := hL.trans (hb.mono hL.size)
    clear hb
    have q0 := Row.new wn 24 (C .u64 (Z 4))
    have nr1 := r1.lt
    replace r1 := r1.alloc (.cells (C .u64 (Z 4)).toArray 24)
    have nq1 := q1.lt
    replace q1 := q1.alloc (.cells (C .u64 (Z 4)).toArray 24)
    replace hL := hL.alloc hL.size (.cells (C .u64 (Z 4)).toArray 24)
    generalize hg : wn.heap.size = g2 at *
    go_upto_region 5 with (first | refine wpList_alloc_row rfl 24 rfl _ z4 ?_ | (refine wpList_store_R rfl 24 _ _ rfl _ (C .u64 (wds q)) (by rw [← hg]; rfl) rfl q0 (ie4 _) (ze4 _) (C_allL _ _) ?_; intro w5 q2r hg5 hz5))
    replace r1 := r1.grown hg5 (by simp; omega)
    replace q1 := q1.grown hg5 (by simp; omega)
    replace hL := below_grown hL hg5 (by omega) q0.lt
    try rw [hg]
    clear q0 hg5 hz5 hg
    try simp only [Act.put, List.setIfInBounds_toArray, List.set_cons_zero, List.set_cons_succ]
    by_cases he : q = R
    · subst he
      replace r1 := r1.drew
      replace q1 := q1.drew
      replace q2r := q2r.drew
      replace hL := below_drawn hL
      refine wp_region_noPanic ?_
      refine wp_region_held_drew (S := fun w' => Row w' w.heap.size 24 (C .u64 (wds A)) ∧ Row w' g1 24 (C .u64 (wds I)) ∧ Row w' g2 24 (C .u64 (wds q))) (by kernel_rfl) ⟨r1, q1, q2r⟩ (fun hHeld => ?_)
      refine wpAnyH_takeL (i := 0) (v := ?v0x) rfl (by kernel_rfl) (by kernel_rfl) (by kernel_rfl) (fun _ _ _ h => h) (by rfl) ?h0x (by assumption) ?_
      case h0x => intro w hSw; go_simp <;> with_reducible rfl
      simp only [Act.put, List.setIfInBounds_toArray, List.set_cons_zero, List.set_cons_succ]
      refine wpAnyH_takeL (i := 1) (v := ?v1x) rfl (by kernel_rfl) (by kernel_rfl) (by kernel_rfl) (fun _ _ _ h => h) (by rfl) ?h1x (by assumption) ?_
      case h1x => intro w hSw; go_simp <;> with_reducible rfl
      simp only [Act.put, List.setIfInBounds_toArray, List.set_cons_zero, List.set_cons_succ]
      refine wpAnyH_takeL (i := 2) (v := ?v2x) rfl (by kernel_rfl) (by kernel_rfl) (by kernel_rfl) (fun _ _ _ h => h) (by rfl) ?h2x (by assumption) ?_
      case h2x => intro w hSw; go_simp <;> with_reducible rfl
      simp only [Act.put, List.setIfInBounds_toArray, List.set_cons_zero, List.set_cons_succ]
      refine wpAnyH_takeL (i := 3) (v := (.agg (C .u64 (wds q)).toArray)) rfl (by kernel_rfl) (by kernel_rfl) (by kernel_rfl) (fun _ _ _ h => h) (by rfl) ?h3x (by assumption) ?_
      case h3x => intro w hSw; exact exec_load_R 24 _ rfl rfl hSw.2.2 Tryd.underlying24 (ie4 q)
      simp only [Act.put, List.setIfInBounds_toArray, List.set_cons_zero, List.set_cons_succ]
      refine wpAnyH_takeL (i := 4) (v := (.agg (C .u64 (wds A)).toArray)) rfl (by kernel_rfl) (by kernel_rfl) (by kernel_rfl) (fun _ _ _ h => h) (by rfl) ?h4x (by assumption) ?_
      case h4x => intro w hSw; exact exec_load_R 24 _ rfl rfl hSw.1 Tryd.underlying24 (ie4 A)
      simp only [Act.put, List.setIfInBounds_toArray, List.set_cons_zero, List.set_cons_succ]
      refine allReadyH_oneL (i := 5) (by kernel_rfl) rfl (by rfl) (fun K hK => ?_)
      go_simp
      refine (c2 _ (hT.below hL).p).mono ?_
      rintro _ wn ⟨rfl, hb⟩
      replace r1 := r1.belowS hb
      replace q1 := q1.belowS hb
      replace q2r := q2r.belowS hb
      replace hL := hL.trans (hb.mono hL.size)
      clear hb
      refine hK.out _ _ ⟨r1, q1, q2r⟩ (fun hHeld => ?_)
      clear hK K
      refine wpAnyH_takeL (i := 6) (v := ?v6x) rfl (by kernel_rfl) (by kernel_rfl) (by kernel_rfl) (fun _ _ _ h => h) (by rfl) ?h6x (by assumption) ?_
      case h6x => intro w hSw; go_simp <;> with_reducible rfl
      simp only [Act.put, List.setIfInBounds_toArray, List.set_cons_zero, List.set_cons_succ]
      refine wpAnyH_takeL (i := 7) (v := ?v7x) rfl (by kernel_rfl) (by kernel_rfl) (by kernel_rfl) (fun _ _ _ h => h) (by rfl) ?h7x (by assumption) ?_
      case h7x => intro w hSw; go_simp <;> with_reducible rfl
      simp only [Act.put, List.setIfInBounds_toArray, List.set_cons_zero, List.set_cons_succ]
      refine wpAnyH_skipL (i := 8) rfl (by kernel_rfl) (by kernel_rfl) (by kernel_rfl) (fun _ _ _ h => h) (by rfl) (by assumption) ?_
      simp only [Act.put, List.setIfInBounds_toArray, List.set_cons_zero, List.set_cons_succ]
      refine wpAnyH_skipL (i := 9) rfl (by kernel_rfl) (by kernel_rfl) (by kernel_rfl) (fun _ _ _ h => h) (by rfl) (by assumption) ?_
      simp only [Act.put, List.setIfInBounds_toArray, List.set_cons_zero, List.set_cons_succ]
      refine wpAnyH_skipL (i := 10) rfl (by kernel_rfl) (by kernel_rfl) (by kernel_rfl) (fun _ _ _ h => h) (by rfl) (by assumption) ?_
      simp only [Act.put, List.setIfInBounds_toArray, List.set_cons_zero, List.set_cons_succ]
      refine wpAnyH_skipL (i := 11) rfl (by kernel_rfl) (by kernel_rfl) (by kernel_rfl) (fun _ _ _ h => h) (by rfl) (by assumption) ?_
      simp only [Act.put, List.setIfInBounds_toArray, List.set_cons_zero, List.set_cons_succ]
      refine wpAnyH_skipL (i := 12) rfl (by kernel_rfl) (by kernel_rfl) (by kernel_rfl) (fun _ _ _ h => h) (by rfl) (by assumption) ?_
      simp only [Act.put, List.setIfInBounds_toArray, List.set_cons_zero, List.set_cons_succ]
      refine wpAnyH_takeL (i := 13) (v := ?v13x) rfl (by kernel_rfl) (by kernel_rfl) (by kernel_rfl) (fun _ _ _ h => h) (by rfl) ?h13x (by assumption) ?_
      case h13x => intro w hSw; go_simp <;> with_reducible rfl
      simp only [Act.put, List.setIfInBounds_toArray, List.set_cons_zero, List.set_cons_succ]
      refine wpAnyH_takeL (i := 14) (v := ?v14x) rfl (by kernel_rfl) (by kernel_rfl) (by kernel_rfl) (fun _ _ _ h => h) (by rfl) ?h14x (by assumption) ?_
      case h14x => intro w hSw; go_simp <;> with_reducible rfl
      simp only [Act.put, List.setIfInBounds_toArray, List.set_cons_zero, List.set_cons_succ]
      refine wpAnyH_done (by kernel_rfl) ?_ _
      refine NoPanic.normal ?_
      go_upto_region 7 with fail
      go_wp2_with (refine wpList_load_row rfl 24 _ rfl _ rfl _ _ _ _ r1 Tryd.underlying24 rfl (ie4 A) ?_)
      refine (c6 _ (hT.below hL)).mono ?_
      rintro _ wn ⟨rfl, hb⟩
      replace r1 := r1.belowS hb
      replace q1 := q1.belowS hb
      replace q2r := q2r.belowS hb
      replace hL := hL.trans (hb.mono hL.size)
      clear hb
      have q0 := Row.new wn 24 (C .u64 (Z 4))
      have nr1 := r1.lt
      replace r1 := r1.alloc (.cells (C .u64 (Z 4)).toArray 24)
      have nq1 := q1.lt
      replace q1 := q1.alloc (.cells (C .u64 (Z 4)).toArray 24)
      have nq2r := q2r.lt
      replace q2r := q2r.alloc (.cells (C .u64 (Z 4)).toArray 24)
      replace hL := hL.alloc hL.size (.cells (C .u64 (Z 4)).toArray 24)
      generalize hg : wn.heap.size = g3 at *
      go_upto_region 8 with (first | refine wpList_alloc_row rfl 24 rfl _ z4 ?_ | (refine wpList_store_R rfl 24 _ _ rfl _ (C .u64 (wds q2)) (by rw [← hg]; rfl) rfl q0 (ie4 _) (ze4 _) (C_allL _ _) ?_; intro w5 q3 hg5 hz5))
      replace r1 := r1.grown hg5 (by simp; omega)
      replace q1 := q1.grown hg5 (by simp; omega)
      replace q2r := q2r.grown hg5 (by simp; omega)
      replace hL := below_grown hL hg5 (by omega) q0.lt
      try rw [hg]
      clear q0 hg5 hz5 hg
      try simp only [Act.put, List.setIfInBounds_toArray, List.set_cons_zero, List.set_cons_succ]
      cases ok2
      · replace r1 := r1.drew
        replace q1 := q1.drew
        replace q2r := q2r.drew
        replace q3 := q3.drew
        replace hL := below_drawn hL
        refine wp_region_noPanic ?_
        refine wp_region_held_drew (S := fun w' => Row w' w.heap.size 24 (C .u64 (wds A)) ∧ Row w' g1 24 (C .u64 (wds I)) ∧ Row w' g2 24 (C .u64 (wds q)) ∧ Row w' g3 24 (C .u64 (wds q2))) (by kernel_rfl) ⟨r1, q1, q2r, q3⟩ (fun hHeld => ?_)
        refine allReadyH_oneL (i := 0) (by kernel_rfl) rfl (by rfl) (fun K hK => ?_)
        go_simp
        refine (alive11_true _ (hT.below hL)).mono ?_
        rintro _ wn ⟨rfl, hb⟩
        replace r1 := r1.belowS hb
        replace q1 := q1.belowS hb
        replace q2r := q2r.belowS hb
        replace q3 := q3.belowS hb
        replace hL := hL.trans (hb.mono hL.size)
        clear hb
        refine hK.out _ _ ⟨r1, q1, q2r, q3⟩ (fun hHeld => ?_)
        clear hK K
        refine wpAnyH_takeL (i := 1) (v := ?v1xa) rfl (by kernel_rfl) (by kernel_rfl) (by kernel_rfl) (fun _ _ _ h => h) (by rfl) ?h1xa (by assumption) ?_
        case h1xa => intro w hSw; go_simp <;> with_reducible rfl
        simp only [Act.put, List.setIfInBounds_toArray, List.set_cons_zero, List.set_cons_succ]
        refine wpAnyH_takeL (i := 2) (v := (.agg (C .u64 (wds A)).toArray)) rfl (by kernel_rfl) (by kernel_rfl) (by kernel_rfl) (fun _ _ _ h => h) (by rfl) ?h2xa (by assumption) ?_
        case h2xa => intro w hSw; exact exec_load_R 24 _ rfl rfl hSw.1 Tryd.underlying24 (ie4 A)
        simp only [Act.put, List.setIfInBounds_toArray, List.set_cons_zero, List.set_cons_succ]
        refine wpAnyH_takeL (i := 3) (v := (.agg (C .u64 (wds I)).toArray)) rfl (by kernel_rfl) (by kernel_rfl) (by kernel_rfl) (fun _ _ _ h => h) (by rfl) ?h3xa (by assumption) ?_
        case h3xa => intro w hSw; exact exec_load_R 24 _ rfl rfl hSw.2.1 Tryd.underlying24 (ie4 I)
        simp only [Act.put, List.setIfInBounds_toArray, List.set_cons_zero, List.set_cons_succ]
        refine wpAnyH_takeL (i := 5) (v := ?v5xa) rfl (by kernel_rfl) (by kernel_rfl) (by kernel_rfl) (fun _ _ _ h => h) (by rfl) ?h5xa (by assumption) ?_
        case h5xa => intro w hSw; go_simp <;> with_reducible rfl
        simp only [Act.put, List.setIfInBounds_toArray, List.set_cons_zero, List.set_cons_succ]
        refine allReadyH_oneL (i := 4) (by kernel_rfl) rfl (by rfl) (fun K hK => ?_)
        go_simp
        refine (c7 _ (hT.below hL).p).mono ?_
        rintro _ wn ⟨rfl, hb⟩
        replace r1 := r1.belowS hb
        replace q1 := q1.belowS hb
        replace q2r := q2r.belowS hb
        replace q3 := q3.belowS hb
        replace hL := hL.trans (hb.mono hL.size)
        clear hb
        refine hK.out _ _ ⟨r1, q1, q2r, q3⟩ (fun hHeld => ?_)
        clear hK K
        refine wpAnyH_takeL (i := 6) (v := ?v6xa) rfl (by kernel_rfl) (by kernel_rfl) (by kernel_rfl) (fun _ _ _ h => h) (by rfl) ?h6xa (by assumption) ?_
        case h6xa => intro w hSw; go_simp <;> with_reducible rfl
        simp only [Act.put, List.setIfInBounds_toArray, List.set_cons_zero, List.set_cons_succ]
        refine wpAnyH_takeL (i := 7) (v := ?v7xa) rfl (by kernel_rfl) (by kernel_rfl) (by kernel_rfl) (fun _ _ _ h => h) (by rfl) ?h7xa (by assumption) ?_
        case h7xa => intro w hSw; go_simp <;> with_reducible rfl
        simp only [Act.put, List.setIfInBounds_toArray, List.set_cons_zero, List.set_cons_succ]
        refine wpAnyH_takeL (i := 8) (v := ?v8xa) rfl (by kernel_rfl) (by kernel_rfl) (by kernel_rfl) (fun _ _ _ h => h) (by rfl) ?h8xa (by assumption) ?_
        case h8xa => intro w hSw; go_simp <;> with_reducible rfl
        simp only [Act.put, List.setIfInBounds_toArray, List.set_cons_zero, List.set_cons_succ]
        refine wpAnyH_takeL (i := 9) (v := ?v9xa) rfl (by kernel_rfl) (by kernel_rfl) (by kernel_rfl) (fun _ _ _ h => h) (by rfl) ?h9xa (by assumption) ?_
        case h9xa => intro w hSw; go_simp <;> with_reducible rfl
        simp only [Act.put, List.setIfInBounds_toArray, List.set_cons_zero, List.set_cons_succ]
        refine wpAnyH_takeL (i := 10) (v := ?v10xa) rfl (by kernel_rfl) (by kernel_rfl) (by kernel_rfl) (fun _ _ _ h => h) (by rfl) ?h10xa (by assumption) ?_
        case h10xa => intro w hSw; go_simp <;> with_reducible rfl
        simp only [Act.put, List.setIfInBounds_toArray, List.set_cons_zero, List.set_cons_succ]
        refine wpAnyH_takeL (i := 11) (v := ?v11xa) rfl (by kernel_rfl) (by kernel_rfl) (by kernel_rfl) (fun _ _ _ h => h) (by rfl) ?h11xa (by assumption) ?_
        case h11xa => intro w hSw; go_simp <;> with_reducible rfl
        simp only [Act.put, List.setIfInBounds_toArray, List.set_cons_zero, List.set_cons_succ]
        refine wpAnyH_skipL (i := 12) rfl (by kernel_rfl) (by kernel_rfl) (by kernel_rfl) (fun _ _ _ h => h) (by rfl) (by assumption) ?_
        simp only [Act.put, List.setIfInBounds_toArray, List.set_cons_zero, List.set_cons_succ]
        refine wpAnyH_skipL (i := 13) rfl (by kernel_rfl) (by kernel_rfl) (by kernel_rfl) (fun _ _ _ h => h) (by rfl) (by assumption) ?_
        simp only [Act.put, List.setIfInBounds_toArray, List.set_cons_zero, List.set_cons_succ]
        refine wpAnyH_skipL (i := 14) rfl (by kernel_rfl) (by kernel_rfl) (by kernel_rfl) (fun _ _ _ h => h) (by rfl) (by assumption) ?_
        simp only [Act.put, List.setIfInBounds_toArray, List.set_cons_zero, List.set_cons_succ]
        refine wpAnyH_skipL (i := 15) rfl (by kernel_rfl) (by kernel_rfl) (by kernel_rfl) (fun _ _ _ h => h) (by rfl) (by assumption) ?_
        simp only [Act.put, List.setIfInBounds_toArray, List.set_cons_zero, List.set_cons_succ]
        refine wpAnyH_skipL (i := 16) rfl (by kernel_rfl) (by kernel_rfl) (by kernel_rfl) (fun _ _ _ h => h) (by rfl) (by assumption) ?_
        simp only [Act.put, List.setIfInBounds_toArray, List.set_cons_zero, List.set_cons_succ]
        refine wpAnyH_skipL (i := 17) rfl (by kernel_rfl) (by kernel_rfl) (by kernel_rfl) (fun _ _ _ h => h) (by rfl) (by assumption) ?_
        simp only [Act.put, List.setIfInBounds_toArray, List.set_cons_zero, List.set_cons_succ]
        refine wpAnyH_skipL (i := 18) rfl (by kernel_rfl) (by kernel_rfl) (by kernel_rfl) (fun _ _ _ h => h) (by rfl) (by assumption) ?_
        simp only [Act.put, List.setIfInBounds_toArray, List.set_cons_zero, List.set_cons_succ]
        refine wpAnyH_skipL (i := 19) rfl (by kernel_rfl) (by kernel_rfl) (by kernel_rfl) (fun _ _ _ h => h) (by rfl) (by assumption) ?_
        simp only [Act.put, List.setIfInBounds_toArray, List.set_cons_zero, List.set_cons_succ]
        refine wpAnyH_skipL (i := 20) rfl (by kernel_rfl) (by kernel_rfl) (by kernel_rfl) (fun _ _ _ h => h) (by rfl) (by assumption) ?_
        simp only [Act.put, List.setIfInBounds_toArray, List.set_cons_zero, List.set_cons_succ]
        refine wpAnyH_skipL (i := 21) rfl (by kernel_rfl) (by kernel_rfl) (by kernel_rfl) (fun _ _ _ h => h) (by rfl) (by assumption) ?_
        simp only [Act.put, List.setIfInBounds_toArray, List.set_cons_zero, List.set_cons_succ]
        refine wpAnyH_skipL (i := 22) rfl (by kernel_rfl) (by kernel_rfl) (by kernel_rfl) (fun _ _ _ h => h) (by rfl) (by assumption) ?_
        simp only [Act.put, List.setIfInBounds_toArray, List.set_cons_zero, List.set_cons_succ]
        refine wpAnyH_skipL (i := 23) rfl (by kernel_rfl) (by kernel_rfl) (by kernel_rfl) (fun _ _ _ h => h) (by rfl) (by assumption) ?_
        simp only [Act.put, List.setIfInBounds_toArray, List.set_cons_zero, List.set_cons_succ]
        refine wpAnyH_takeL (i := 24) (v := ?v24xa) rfl (by kernel_rfl) (by kernel_rfl) (by kernel_rfl) (fun _ _ _ h => h) (by rfl) ?h24xa (by assumption) ?_
        case h24xa => intro w hSw; go_simp <;> with_reducible rfl
        simp only [Act.put, List.setIfInBounds_toArray, List.set_cons_zero, List.set_cons_succ]
        refine wpAnyH_takeL (i := 25) (v := ?v25xa) rfl (by kernel_rfl) (by kernel_rfl) (by kernel_rfl) (fun _ _ _ h => h) (by rfl) ?h25xa (by assumption) ?_
        case h25xa => intro w hSw; go_simp <;> with_reducible rfl
        simp only [Act.put, List.setIfInBounds_toArray, List.set_cons_zero, List.set_cons_succ]
        refine wpAnyH_takeL (i := 26) (v := ?v26xa) rfl (by kernel_rfl) (by kernel_rfl) (by kernel_rfl) (fun _ _ _ h => h) (by rfl) ?h26xa (by assumption) ?_
        case h26xa => intro w hSw; go_simp <;> with_reducible rfl
        simp only [Act.put, List.setIfInBounds_toArray, List.set_cons_zero, List.set_cons_succ]
        refine wpAnyH_done (by kernel_rfl) ?_ _
        refine NoPanic.normal ?_
        go_wp2
        go_ret
        exact ⟨rfl, hL⟩
      · obtain ⟨k2, k3⟩ := ht3 rfl
        rw [k3] at c8
        have x0l : q2 % 18446744073709551616 < 18446744073709551616 := Nat.mod_lt _ (by decide)
        have hc0 := fun (w' : World) (h : Row w' g3 24 (C .u64 (wds q2))) => cell0 h lq2
        have e1 : bits .and .u64 ((q2 % 18446744073709551616 : Nat) : Int) 1 = 0 := by
          have := u64_and_nat (q2 % 18446744073709551616) 1 x0l (by decide)
          rw [show ((1 : Nat) : Int) = 1 from rfl] at this
          rw [this, Nat.and_one_is_mod]
          have : q2 % 18446744073709551616 % 2 = 0 := by omega
          rw [this]; rfl
        generalize q2 % 18446744073709551616 = x0 at *
        clear k2 k3 ht3 x0l
        replace r1 := r1.drew
        replace q1 := q1.drew
        replace q2r := q2r.drew
        replace q3 := q3.drew
        replace hL := below_drawn hL
        refine wp_region_noPanic ?_
        refine wp_region_held_drew (S := fun w' => Row w' w.heap.size 24 (C .u64 (wds A)) ∧ Row w' g1 24 (C .u64 (wds I)) ∧ Row w' g2 24 (C .u64 (wds q)) ∧ Row w' g3 24 (C .u64 (wds q2))) (by kernel_rfl) ⟨r1, q1, q2r, q3⟩ (fun hHeld => ?_)
        refine allReadyH_oneL (i := 0) (by kernel_rfl) rfl (by rfl) (fun K hK => ?_)
        go_simp
        refine (alive11_true _ (hT.below hL)).mono ?_
        rintro _ wn ⟨rfl, hb⟩
        replace r1 := r1.belowS hb
        replace q1 := q1.belowS hb
        replace q2r := q2r.belowS hb
        replace q3 := q3.belowS hb
        replace hL := hL.trans (hb.mono hL.size)
        clear hb
        refine hK.out _ _ ⟨r1, q1, q2r, q3⟩ (fun hHeld => ?_)
        clear hK K
        refine wpAnyH_takeL (i := 1) (v := ?v1xb) rfl (by kernel_rfl) (by kernel_rfl) (by kernel_rfl) (fun _ _ _ h => h) (by rfl) ?h1xb (by assumption) ?_
        case h1xb => intro w hSw; go_simp <;> with_reducible rfl
        simp only [Act.put, List.setIfInBounds_toArray, List.set_cons_zero, List.set_cons_succ]
        refine wpAnyH_takeL (i := 2) (v := (.agg (C .u64 (wds A)).toArray)) rfl (by kernel_rfl) (by kernel_rfl) (by kernel_rfl) (fun _ _ _ h => h) (by rfl) ?h2xb (by assumption) ?_
        case h2xb => intro w hSw; exact exec_load_R 24 _ rfl rfl hSw.1 Tryd.underlying24 (ie4 A)
        simp only [Act.put, List.setIfInBounds_toArray, List.set_cons_zero, List.set_cons_succ]
        refine wpAnyH_takeL (i := 3) (v := (.agg (C .u64 (wds I)).toArray)) rfl (by kernel_rfl) (by kernel_rfl) (by kernel_rfl) (fun _ _ _ h => h) (by rfl) ?h3xb (by assumption) ?_
        case h3xb => intro w hSw; exact exec_load_R 24 _ rfl rfl hSw.2.1 Tryd.underlying24 (ie4 I)
        simp only [Act.put, List.setIfInBounds_toArray, List.set_cons_zero, List.set_cons_succ]
        refine wpAnyH_takeL (i := 5) (v := ?v5xb) rfl (by kernel_rfl) (by kernel_rfl) (by kernel_rfl) (fun _ _ _ h => h) (by rfl) ?h5xb (by assumption) ?_
        case h5xb => intro w hSw; go_simp <;> with_reducible rfl
        simp only [Act.put, List.setIfInBounds_toArray, List.set_cons_zero, List.set_cons_succ]
        refine allReadyH_oneL (i := 4) (by kernel_rfl) rfl (by rfl) (fun K hK => ?_)
        go_simp
        refine (c7 _ (hT.below hL).p).mono ?_
        rintro _ wn ⟨rfl, hb⟩
        replace r1 := r1.belowS hb
        replace q1 := q1.belowS hb
        replace q2r := q2r.belowS hb
        replace q3 := q3.belowS hb
        replace hL := hL.trans (hb.mono hL.size)
        clear hb
        refine hK.out _ _ ⟨r1, q1, q2r, q3⟩ (fun hHeld => ?_)
        clear hK K
        refine wpAnyH_takeL (i := 6) (v := ?v6xb) rfl (by kernel_rfl) (by kernel_rfl) (by kernel_rfl) (fun _ _ _ h => h) (by rfl) ?h6xb (by assumption) ?_
        case h6xb => intro w hSw; go_simp <;> with_reducible rfl
        simp only [Act.put, List.setIfInBounds_toArray, List.set_cons_zero, List.set_cons_succ]
        refine wpAnyH_takeL (i := 7) (v := ?v7xb) rfl (by kernel_rfl) (by kernel_rfl) (by kernel_rfl) (fun _ _ _ h => h) (by rfl) ?h7xb (by assumption) ?_
        case h7xb => intro w hSw; go_simp <;> with_reducible rfl
        simp only [Act.put, List.setIfInBounds_toArray, List.set_cons_zero, List.set_cons_succ]
        refine wpAnyH_takeL (i := 8) (v := ?v8xb) rfl (by kernel_rfl) (by kernel_rfl) (by kernel_rfl) (fun _ _ _ h => h) (by rfl) ?h8xb (by assumption) ?_
        case h8xb => intro w hSw; go_simp <;> with_reducible rfl
        simp only [Act.put, List.setIfInBounds_toArray, List.set_cons_zero, List.set_cons_succ]
        refine wpAnyH_takeL (i := 9) (v := ?v9xb) rfl (by kernel_rfl) (by kernel_rfl) (by kernel_rfl) (fun _ _ _ h => h) (by rfl) ?h9xb (by assumption) ?_
        case h9xb => intro w hSw; go_simp <;> with_reducible rfl
        simp only [Act.put, List.setIfInBounds_toArray, List.set_cons_zero, List.set_cons_succ]
        refine wpAnyH_takeL (i := 10) (v := ?v10xb) rfl (by kernel_rfl) (by kernel_rfl) (by kernel_rfl) (fun _ _ _ h => h) (by rfl) ?h10xb (by assumption) ?_
        case h10xb => intro w hSw; go_simp <;> with_reducible rfl
        simp only [Act.put, List.setIfInBounds_toArray, List.set_cons_zero, List.set_cons_succ]
        refine wpAnyH_takeL (i := 11) (v := ?v11xb) rfl (by kernel_rfl) (by kernel_rfl) (by kernel_rfl) (fun _ _ _ h => h) (by rfl) ?h11xb (by assumption) ?_
        case h11xb => intro w hSw; go_simp <;> with_reducible rfl
        simp only [Act.put, List.setIfInBounds_toArray, List.set_cons_zero, List.set_cons_succ]
        refine wpAnyH_takeL (i := 12) (v := (.agg (C .u64 (wds q2)).toArray)) rfl (by kernel_rfl) (by kernel_rfl) (by kernel_rfl) (fun _ _ _ h => h) (by rfl) ?h12xb (by assumption) ?_
        case h12xb => intro w hSw; exact exec_load_R 24 _ rfl rfl hSw.2.2.2 Tryd.underlying24 (ie4 q2)
        simp only [Act.put, List.setIfInBounds_toArray, List.set_cons_zero, List.set_cons_succ]
        refine wpAnyH_takeL (i := 13) (v := (.agg (C .u64 (wds q2)).toArray)) rfl (by kernel_rfl) (by kernel_rfl) (by kernel_rfl) (fun _ _ _ h => h) (by rfl) ?h13xb (by assumption) ?_
        case h13xb => intro w hSw; exact exec_load_R 24 _ rfl rfl hSw.2.2.2 Tryd.underlying24 (ie4 q2)
        simp only [Act.put, List.setIfInBounds_toArray, List.set_cons_zero, List.set_cons_succ]
        refine wpAnyH_takeL (i := 15) (v := (.agg (C .u64 (wds A)).toArray)) rfl (by kernel_rfl) (by kernel_rfl) (by kernel_rfl) (fun _ _ _ h => h) (by rfl) ?h15xb (by assumption) ?_
        case h15xb => intro w hSw; exact exec_load_R 24 _ rfl rfl hSw.1 Tryd.underlying24 (ie4 A)
        simp only [Act.put, List.setIfInBounds_toArray, List.set_cons_zero, List.set_cons_succ]
        refine allReadyH_oneL (i := 14) (by kernel_rfl) rfl (by rfl) (fun K hK => ?_)
        go_simp
        refine (c8 _ (hT.below hL).p).mono ?_
        rintro _ wn ⟨rfl, hb⟩
        replace r1 := r1.belowS hb
        replace q1 := q1.belowS hb
        replace q2r := q2r.belowS hb
        replace q3 := q3.belowS hb
        replace hL := hL.trans (hb.mono hL.size)
        clear hb
        refine hK.out _ _ ⟨r1, q1, q2r, q3⟩ (fun hHeld => ?_)
        clear hK K
        refine allReadyH_oneL (i := 16) (by kernel_rfl) rfl (by rfl) (fun K hK => ?_)
        go_simp
        refine (c2 _ (hT.below hL).p).mono ?_
        rintro _ wn ⟨rfl, hb⟩
        replace r1 := r1.belowS hb
        replace q1 := q1.belowS hb
        replace q2r := q2r.belowS hb
        replace q3 := q3.belowS hb
        replace hL := hL.trans (hb.mono hL.size)
        clear hb
        refine hK.out _ _ ⟨r1, q1, q2r, q3⟩ (fun hHeld => ?_)
        clear hK K
        refine wpAnyH_takeL (i := 17) (v := ?v17xb) rfl (by kernel_rfl) (by kernel_rfl) (by kernel_rfl) (fun _ _ _ h => h) (by rfl) ?h17xb (by assumption) ?_
        case h17xb => intro w hSw; go_simp <;> with_reducible rfl
        simp only [Act.put, List.setIfInBounds_toArray, List.set_cons_zero, List.set_cons_succ]
        refine wpAnyH_takeL (i := 18) (v := ?v18xb) rfl (by kernel_rfl) (by kernel_rfl) (by kernel_rfl) (fun _ _ _ h => h) (by rfl) ?h18xb (by assumption) ?_
        case h18xb => intro w hSw; go_simp <;> with_reducible rfl
        simp only [Act.put, List.setIfInBounds_toArray, List.set_cons_zero, List.set_cons_succ]
        refine wpAnyH_takeL (i := 19) (v := ?v19xb) rfl (by kernel_rfl) (by kernel_rfl) (by kernel_rfl) (fun _ _ _ h => h) (by rfl) ?h19xb (by assumption) ?_
        case h19xb => intro w hSw; go_simp <;> with_reducible rfl
        simp only [Act.put, List.setIfInBounds_toArray, List.set_cons_zero, List.set_cons_succ]
        refine wpAnyH_takeL (i := 20) (v := ?v20xb) rfl (by kernel_rfl) (by kernel_rfl) (by kernel_rfl) (fun _ _ _ h => h) (by rfl) ?h20xb (by assumption) ?_
        case h20xb => intro w hSw; have c0 := hc0 _ hSw.2.2.2; go_simp <;> with_reducible rfl
        simp only [Act.put, List.setIfInBounds_toArray, List.set_cons_zero, List.set_cons_succ]
        refine wpAnyH_takeL (i := 21) (v := ?v21xb) rfl (by kernel_rfl) (by kernel_rfl) (by kernel_rfl) (fun _ _ _ h => h) (by rfl) ?h21xb (by assumption) ?_
        case h21xb => intro w hSw; go_simp <;> with_reducible rfl
        simp only [Act.put, List.setIfInBounds_toArray, List.set_cons_zero, List.set_cons_succ]
        refine wpAnyH_takeL (i := 22) (v := ?v22xb) rfl (by kernel_rfl) (by kernel_rfl) (by kernel_rfl) (fun _ _ _ h => h) (by rfl) ?h22xb (by assumption) ?_
        case h22xb => intro w hSw; go_simp <;> with_reducible rfl
        simp only [Act.put, List.setIfInBounds_toArray, List.set_cons_zero, List.set_cons_succ]
        refine wpAnyH_takeL (i := 23) (v := ?v23xb) rfl (by kernel_rfl) (by kernel_rfl) (by kernel_rfl) (fun _ _ _ h => h) (by rfl) ?h23xb (by assumption) ?_
        case h23xb => intro w hSw; go_simp <;> with_reducible rfl
        simp only [Act.put, List.setIfInBounds_toArray, List.set_cons_zero, List.set_cons_succ]
        refine wpAnyH_takeL (i := 24) (v := ?v24xb) rfl (by kernel_rfl) (by kernel_rfl) (by kernel_rfl) (fun _ _ _ h => h) (by rfl) ?h24xb (by assumption) ?_
        case h24xb => intro w hSw; go_simp <;> with_reducible rfl
        simp only [Act.put, List.setIfInBounds_toArray, List.set_cons_zero, List.set_cons_succ]
        refine wpAnyH_takeL (i := 25) (v := ?v25xb) rfl (by kernel_rfl) (by kernel_rfl) (by kernel_rfl) (fun _ _ _ h => h) (by rfl) ?h25xb (by assumption) ?_
        case h25xb => intro w hSw; go_simp <;> with_reducible rfl
        simp only [Act.put, List.setIfInBounds_toArray, List.set_cons_zero, List.set_cons_succ]
        refine wpAnyH_takeL (i := 26) (v := ?v26xb) rfl (by kernel_rfl) (by kernel_rfl) (by kernel_rfl) (fun _ _ _ h => h) (by rfl) ?h26xb (by assumption) ?_
        case h26xb => intro w hSw; go_simp <;> with_reducible rfl
        simp only [Act.put, List.setIfInBounds_toArray, List.set_cons_zero, List.set_cons_succ]
        refine wpAnyH_done (by kernel_rfl) ?_ _
        refine NoPanic.normal ?_
        go_wp2
        go_ret
        exact ⟨rfl, hL⟩
    · have sqR : ∀ w, (Op.equalIn 10000 24 (.agg (C .u64 (wds q)).toArray) (.agg (C .u64 (wds R)).toArray)).run Tryd.prog w = .ok false w := fun w => (eq4 w q R lq lR).trans (by rw [decide_eq_false he])
      obtain rfl : q = N := by rcases hself with h | h; exact absurd h he; exact h
      replace r1 := r1.drew
      replace q1 := q1.drew
      replace q2r := q2r.drew
      replace hL := below_drawn hL
      refine wp_region_noPanic ?_
      refine wp_region_held_drew (S := fun w' => Row w' w.heap.size 24 (C .u64 (wds A)) ∧ Row w' g1 24 (C .u64 (wds I)) ∧ Row w' g2 24 (C .u64 (wds q))) (by kernel_rfl) ⟨r1, q1, q2r⟩ (fun hHeld => ?_)
      refine wpAnyH_takeL (i := 0) (v := ?v0y) rfl (by kernel_rfl) (by kernel_rfl) (by kernel_rfl) (fun _ _ _ h => h) (by rfl) ?h0y (by assumption) ?_
      case h0y => intro w hSw; go_simp <;> with_reducible rfl
      simp only [Act.put, List.setIfInBounds_toArray, List.set_cons_zero, List.set_cons_succ]
      refine wpAnyH_takeL (i := 1) (v := ?v1y) rfl (by kernel_rfl) (by kernel_rfl) (by kernel_rfl) (fun _ _ _ h => h) (by rfl) ?h1y (by assumption) ?_
      case h1y => intro w hSw; go_simp <;> with_reducible rfl
      simp only [Act.put, List.setIfInBounds_toArray, List.set_cons_zero, List.set_cons_succ]
      refine wpAnyH_takeL (i := 2) (v := ?v2y) rfl (by kernel_rfl) (by kernel_rfl) (by kernel_rfl) (fun _ _ _ h => h) (by rfl) ?h2y (by assumption) ?_
      case h2y => intro w hSw; go_simp <;> with_reducible rfl
      simp only [Act.put, List.setIfInBounds_toArray, List.set_cons_zero, List.set_cons_succ]
      refine wpAnyH_takeL (i := 3) (v := (.agg (C .u64 (wds q)).toArray)) rfl (by kernel_rfl) (by kernel_rfl) (by kernel_rfl) (fun _ _ _ h => h) (by rfl) ?h3y (by assumption) ?_
      case h3y => intro w hSw; exact exec_load_R 24 _ rfl rfl hSw.2.2 Tryd.underlying24 (ie4 q)
      simp only [Act.put, List.setIfInBounds_toArray, List.set_cons_zero, List.set_cons_succ]
      refine wpAnyH_takeL (i := 4) (v := (.agg (C .u64 (wds A)).toArray)) rfl (by kernel_rfl) (by kernel_rfl) (by kernel_rfl) (fun _ _ _ h => h) (by rfl) ?h4y (by assumption) ?_
      case h4y => intro w hSw; exact exec_load_R 24 _ rfl rfl hSw.1 Tryd.underlying24 (ie4 A)
      simp only [Act.put, List.setIfInBounds_toArray, List.set_cons_zero, List.set_cons_succ]
      refine allReadyH_oneL (i := 5) (by kernel_rfl) rfl (by rfl) (fun K hK => ?_)
      go_simp
      refine (c2 _ (hT.below hL).p).mono ?_
      rintro _ wn ⟨rfl, hb⟩
      replace r1 := r1.belowS hb
      replace q1 := q1.belowS hb
      replace q2r := q2r.belowS hb
      replace hL := hL.trans (hb.mono hL.size)
      clear hb
      refine hK.out _ _ ⟨r1, q1, q2r⟩ (fun hHeld => ?_)
      clear hK K
      refine wpAnyH_takeL (i := 6) (v := ?v6y) rfl (by kernel_rfl) (by kernel_rfl) (by kernel_rfl) (fun _ _ _ h => h) (by rfl) ?h6y (by assumption) ?_
      case h6y => intro w hSw; go_simp <;> with_reducible rfl
      simp only [Act.put, List.setIfInBounds_toArray, List.set_cons_zero, List.set_cons_succ]
      refine wpAnyH_takeL (i := 7) (v := ?v7y) rfl (by kernel_rfl) (by kernel_rfl) (by kernel_rfl) (fun _ _ _ h => h) (by rfl) ?h7y (by assumption) ?_
      case h7y => intro w hSw; go_simp <;> with_reducible rfl
      simp only [Act.put, List.setIfInBounds_toArray, List.set_cons_zero, List.set_cons_succ]
      refine wpAnyH_takeL (i := 8) (v := (.agg (C .u64 (wds q)).toArray)) rfl (by kernel_rfl) (by kernel_rfl) (by kernel_rfl) (fun _ _ _ h => h) (by rfl) ?h8y (by assumption) ?_
      case h8y => intro w hSw; exact exec_load_R 24 _ rfl rfl hSw.2.2 Tryd.underlying24 (ie4 q)
      simp only [Act.put, List.setIfInBounds_toArray, List.set_cons_zero, List.set_cons_succ]
      refine wpAnyH_takeL (i := 9) (v := ?v9y) rfl (by kernel_rfl) (by kernel_rfl) (by kernel_rfl) (fun _ _ _ h => h) (by rfl) ?h9y (by assumption) ?_
      case h9y => intro w hSw; go_simp <;> with_reducible rfl
      simp only [Act.put, List.setIfInBounds_toArray, List.set_cons_zero, List.set_cons_succ]
      refine wpAnyH_takeL (i := 10) (v := (.agg (C .u64 (wds A)).toArray)) rfl (by kernel_rfl) (by kernel_rfl) (by kernel_rfl) (fun _ _ _ h => h) (by rfl) ?h10y (by assumption) ?_
      case h10y => intro w hSw; exact exec_load_R 24 _ rfl rfl hSw.1 Tryd.underlying24 (ie4 A)
      simp only [Act.put, List.setIfInBounds_toArray, List.set_cons_zero, List.set_cons_succ]
      refine allReadyH_oneL (i := 11) (by kernel_rfl) rfl (by rfl) (fun K hK => ?_)
      go_simp
      refine (c5 _ (hT.below hL).p).mono ?_
      rintro _ wn ⟨rfl, hb⟩
      replace r1 := r1.belowS hb
      replace q1 := q1.belowS hb
      replace q2r := q2r.belowS hb
      replace hL := hL.trans (hb.mono hL.size)
      clear hb
      refine hK.out _ _ ⟨r1, q1, q2r⟩ (fun hHeld => ?_)
      clear hK K
      refine wpAnyH_takeL (i := 12) (v := ?v12y) rfl (by kernel_rfl) (by kernel_rfl) (by kernel_rfl) (fun _ _ _ h => h) (by rfl) ?h12y (by assumption) ?_
      case h12y => intro w hSw; go_simp <;> with_reducible rfl
      simp only [Act.put, List.setIfInBounds_toArray, List.set_cons_zero, List.set_cons_succ]
      refine wpAnyH_takeL (i := 13) (v := ?v13y) rfl (by kernel_rfl) (by kernel_rfl) (by kernel_rfl) (fun _ _ _ h => h) (by rfl) ?h13y (by assumption) ?_
      case h13y => intro w hSw; go_simp <;> with_reducible rfl
      simp only [Act.put, List.setIfInBounds_toArray, List.set_cons_zero, List.set_cons_succ]
      refine wpAnyH_takeL (i := 14) (v := ?v14y) rfl (by kernel_rfl) (by kernel_rfl) (by kernel_rfl) (fun _ _ _ h => h) (by rfl) ?h14y (by assumption) ?_
      case h14y => intro w hSw; go_simp <;> with_reducible rfl
      simp only [Act.put, List.setIfInBounds_toArray, List.set_cons_zero, List.set_cons_succ]
      refine wpAnyH_done (by kernel_rfl) ?_ _
      refine NoPanic.normal ?_
      go_upto_region 7 with fail
      go_wp2_with (refine wpList_load_row rfl 24 _ rfl _ rfl _ _ _ _ r1 Tryd.underlying24 rfl (ie4 A) ?_)
      refine (c6 _ (hT.below hL)).mono ?_
      rintro _ wn ⟨rfl, hb⟩
      replace r1 := r1.belowS hb
      replace q1 := q1.belowS hb
      replace q2r := q2r.belowS hb
      replace hL := hL.trans (hb.mono hL.size)
      clear hb
      have q0 := Row.new wn 24 (C .u64 (Z 4))
      have nr1 := r1.lt
      replace r1 := r1.alloc (.cells (C .u64 (Z 4)).toArray 24)
      have nq1 := q1.lt
      replace q1 := q1.alloc (.cells (C .u64 (Z 4)).toArray 24)
      have nq2r := q2r.lt
      replace q2r := q2r.alloc (.cells (C .u64 (Z 4)).toArray 24)
      replace hL := hL.alloc hL.size (.cells (C .u64 (Z 4)).toArray 24)
      generalize hg : wn.heap.size = g3 at *
      go_upto_region 8 with (first | refine wpList_alloc_row rfl 24 rfl _ z4 ?_ | (refine wpList_store_R rfl 24 _ _ rfl _ (C .u64 (wds q2)) (by rw [← hg]; rfl) rfl q0 (ie4 _) (ze4 _) (C_allL _ _) ?_; intro w5 q3 hg5 hz5))
      replace r1 := r1.grown hg5 (by simp; omega)
      replace q1 := q1.grown hg5 (by simp; omega)
      replace q2r := q2r.grown hg5 (by simp; omega)
      replace hL := below_grown hL hg5 (by omega) q0.lt
      try rw [hg]
      clear q0 hg5 hz5 hg
      try simp only [Act.put, List.setIfInBounds_toArray, List.set_cons_zero, List.set_cons_succ]
      cases ok2
      · replace r1 := r1.drew
        replace q1 := q1.drew
        replace q2r := q2r.drew
        replace q3 := q3.drew
        replace hL := below_drawn hL
        refine wp_region_noPanic ?_
        refine wp_region_held_drew (S := fun w' => Row w' w.heap.size 24 (C .u64 (wds A)) ∧ Row w' g1 24 (C .u64 (wds I)) ∧ Row w' g2 24 (C .u64 (wds q)) ∧ Row w' g3 24 (C .u64 (wds q2))) (by kernel_rfl) ⟨r1, q1, q2r, q3⟩ (fun hHeld => ?_)
        refine allReadyH_oneL (i := 0) (by kernel_rfl) rfl (by rfl) (fun K hK => ?_)
        go_simp
        refine (alive11_true _ (hT.below hL)).mono ?_
        rintro _ wn ⟨rfl, hb⟩
        replace r1 := r1.belowS hb
        replace q1 := q1.belowS hb
        replace q2r := q2r.belowS hb
        replace q3 := q3.belowS hb
        replace hL := hL.trans (hb.mono hL.size)
        clear hb
        refine hK.out _ _ ⟨r1, q1, q2r, q3⟩ (fun hHeld => ?_)
        clear hK K
        refine wpAnyH_takeL (i := 1) (v := ?v1ya) rfl (by kernel_rfl) (by kernel_rfl) (by kernel_rfl) (fun _ _ _ h => h) (by rfl) ?h1ya (by assumption) ?_
        case h1ya => intro w hSw; go_simp <;> with_reducible rfl
        simp only [Act.put, List.setIfInBounds_toArray, List.set_cons_zero, List.set_cons_succ]
        refine wpAnyH_takeL (i := 2) (v := (.agg (C .u64 (wds A)).toArray)) rfl (by kernel_rfl) (by kernel_rfl) (by kernel_rfl) (fun _ _ _ h => h) (by rfl) ?h2ya (by assumption) ?_
        case h2ya => intro w hSw; exact exec_load_R 24 _ rfl rfl hSw.1 Tryd.underlying24 (ie4 A)
        simp only [Act.put, List.setIfInBounds_toArray, List.set_cons_zero, List.set_cons_succ]
        refine wpAnyH_takeL (i := 3) (v := (.agg (C .u64 (wds I)).toArray)) rfl (by kernel_rfl) (by kernel_rfl) (by kernel_rfl) (fun _ _ _ h => h) (by rfl) ?h3ya (by assumption) ?_
        case h3ya => intro w hSw; exact exec_load_R 24 _ rfl rfl hSw.2.1 Tryd.underlying24 (ie4 I)
        simp only [Act.put, List.setIfInBounds_toArray, List.set_cons_zero, List.set_cons_succ]
        refine wpAnyH_takeL (i := 5) (v := ?v5ya) rfl (by kernel_rfl) (by kernel_rfl) (by kernel_rfl) (fun _ _ _ h => h) (by rfl) ?h5ya (by assumption) ?_
        case h5ya => intro w hSw; go_simp <;> with_reducible rfl
        simp only [Act.put, List.setIfInBounds_toArray, List.set_cons_zero, List.set_cons_succ]
        refine allReadyH_oneL (i := 4) (by kernel_rfl) rfl (by rfl) (fun K hK => ?_)
        go_simp
        refine (c7 _ (hT.below hL).p).mono ?_
        rintro _ wn ⟨rfl, hb⟩
        replace r1 := r1.belowS hb
        replace q1 := q1.belowS hb
        replace q2r := q2r.belowS hb
        replace q3 := q3.belowS hb
        replace hL := hL.trans (hb.mono hL.size)
        clear hb
        refine hK.out _ _ ⟨r1, q1, q2r, q3⟩ (fun hHeld => ?_)
        clear hK K
        refine wpAnyH_takeL (i := 6) (v := ?v6ya) rfl (by kernel_rfl) (by kernel_rfl) (by kernel_rfl) (fun _ _ _ h => h) (by rfl) ?h6ya (by assumption) ?_
        case h6ya => intro w hSw; go_simp <;> with_reducible rfl
        simp only [Act.put, List.setIfInBounds_toArray, List.set_cons_zero, List.set_cons_succ]
        refine wpAnyH_takeL (i := 7) (v := ?v7ya) rfl (by kernel_rfl) (by kernel_rfl) (by kernel_rfl) (fun _ _ _ h => h) (by rfl) ?h7ya (by assumption) ?_
        case h7ya => intro w hSw; go_simp <;> with_reducible rfl
        simp only [Act.put, List.setIfInBounds_toArray, List.set_cons_zero, List.set_cons_succ]
        refine wpAnyH_takeL (i := 8) (v := ?v8ya) rfl (by kernel_rfl) (by kernel_rfl) (by kernel_rfl) (fun _ _ _ h => h) (by rfl) ?h8ya (by assumption) ?_
        case h8ya => intro w hSw; go_simp <;> with_reducible rfl
        simp only [Act.put, List.setIfInBounds_toArray, List.set_cons_zero, List.set_cons_succ]
        refine wpAnyH_takeL (i := 9) (v := ?v9ya) rfl (by kernel_rfl) (by kernel_rfl) (by kernel_rfl) (fun _ _ _ h => h) (by rfl) ?h9ya (by assumption) ?_
        case h9ya => intro w hSw; go_simp <;> with_reducible rfl
        simp only [Act.put, List.setIfInBounds_toArray, List.set_cons_zero, List.set_cons_succ]
        refine wpAnyH_takeL (i := 10) (v := ?v10ya) rfl (by kernel_rfl) (by kernel_rfl) (by kernel_rfl) (fun _ _ _ h => h) (by rfl) ?h10ya (by assumption) ?_
        case h10ya => intro w hSw; go_simp <;> with_reducible rfl
        simp only [Act.put, List.setIfInBounds_toArray, List.set_cons_zero, List.set_cons_succ]
        refine wpAnyH_takeL (i := 11) (v := ?v11ya) rfl (by kernel_rfl) (by kernel_rfl) (by kernel_rfl) (fun _ _ _ h => h) (by rfl) ?h11ya (by assumption) ?_
        case h11ya => intro w hSw; go_simp <;> with_reducible rfl
        simp only [Act.put, List.setIfInBounds_toArray, List.set_cons_zero, List.set_cons_succ]
        refine wpAnyH_skipL (i := 12) rfl (by kernel_rfl) (by kernel_rfl) (by kernel_rfl) (fun _ _ _ h => h) (by rfl) (by assumption) ?_
        simp only [Act.put, List.setIfInBounds_toArray, List.set_cons_zero, List.set_cons_succ]
        refine wpAnyH_skipL (i := 13) rfl (by kernel_rfl) (by kernel_rfl) (by kernel_rfl) (fun _ _ _ h => h) (by rfl) (by assumption) ?_
        simp only [Act.put, List.setIfInBounds_toArray, List.set_cons_zero, List.set_cons_succ]
        refine wpAnyH_skipL (i := 14) rfl (by kernel_rfl) (by kernel_rfl) (by kernel_rfl) (fun _ _ _ h => h) (by rfl) (by assumption) ?_
        simp only [Act.put, List.setIfInBounds_toArray, List.set_cons_zero, List.set_cons_succ]
        refine wpAnyH_skipL (i := 15) rfl (by kernel_rfl) (by kernel_rfl) (by kernel_rfl) (fun _ _ _ h => h) (by rfl) (by assumption) ?_
        simp only [Act.put, List.setIfInBounds_toArray, List.set_cons_zero, List.set_cons_succ]
        refine wpAnyH_skipL (i := 16) rfl (by kernel_rfl) (by kernel_rfl) (by kernel_rfl) (fun _ _ _ h => h) (by rfl) (by assumption) ?_
        simp only [Act.put, List.setIfInBounds_toArray, List.set_cons_zero, List.set_cons_succ]
        refine wpAnyH_skipL (i := 17) rfl (by kernel_rfl) (by kernel_rfl) (by kernel_rfl) (fun _ _ _ h => h) (by rfl) (by assumption) ?_
        simp only [Act.put, List.setIfInBounds_toArray, List.set_cons_zero, List.set_cons_succ]
        refine wpAnyH_skipL (i := 18) rfl (by kernel_rfl) (by kernel_rfl) (by kernel_rfl) (fun _ _ _ h => h) (by rfl) (by assumption) ?_
        simp only [Act.put, List.setIfInBounds_toArray, List.set_cons_zero, List.set_cons_succ]
        refine wpAnyH_skipL (i := 19) rfl (by kernel_rfl) (by kernel_rfl) (by kernel_rfl) (fun _ _ _ h => h) (by rfl) (by assumption) ?_
        simp only [Act.put, List.setIfInBounds_toArray, List.set_cons_zero, List.set_cons_succ]
        refine wpAnyH_skipL (i := 20) rfl (by kernel_rfl) (by kernel_rfl) (by kernel_rfl) (fun _ _ _ h => h) (by rfl) (by assumption) ?_
        simp only [Act.put, List.setIfInBounds_toArray, List.set_cons_zero, List.set_cons_succ]
        refine wpAnyH_skipL (i := 21) rfl (by kernel_rfl) (by kernel_rfl) (by kernel_rfl) (fun _ _ _ h => h) (by rfl) (by assumption) ?_
        simp only [Act.put, List.setIfInBounds_toArray, List.set_cons_zero, List.set_cons_succ]
        refine wpAnyH_skipL (i := 22) rfl (by kernel_rfl) (by kernel_rfl) (by kernel_rfl) (fun _ _ _ h => h) (by rfl) (by assumption) ?_
        simp only [Act.put, List.setIfInBounds_toArray, List.set_cons_zero, List.set_cons_succ]
        refine wpAnyH_skipL (i := 23) rfl (by kernel_rfl) (by kernel_rfl) (by kernel_rfl) (fun _ _ _ h => h) (by rfl) (by assumption) ?_
        simp only [Act.put, List.setIfInBounds_toArray, List.set_cons_zero, List.set_cons_succ]
        refine wpAnyH_takeL (i := 24) (v := ?v24ya) rfl (by kernel_rfl) (by kernel_rfl) (by kernel_rfl) (fun _ _ _ h => h) (by rfl) ?h24ya (by assumption) ?_
        case h24ya => intro w hSw; go_simp <;> with_reducible rfl
        simp only [Act.put, List.setIfInBounds_toArray, List.set_cons_zero, List.set_cons_succ]
        refine wpAnyH_takeL (i := 25) (v := ?v25ya) rfl (by kernel_rfl) (by kernel_rfl) (by kernel_rfl) (fun _ _ _ h => h) (by rfl) ?h25ya (by assumption) ?_
        case h25ya => intro w hSw; go_simp <;> with_reducible rfl
        simp only [Act.put, List.setIfInBounds_toArray, List.set_cons_zero, List.set_cons_succ]
        refine wpAnyH_takeL (i := 26) (v := ?v26ya) rfl (by kernel_rfl) (by kernel_rfl) (by kernel_rfl) (fun _ _ _ h => h) (by rfl) ?h26ya (by assumption) ?_
        case h26ya => intro w hSw; go_simp <;> with_reducible rfl
        simp only [Act.put, List.setIfInBounds_toArray, List.set_cons_zero, List.set_cons_succ]
        refine wpAnyH_done (by kernel_rfl) ?_ _
        refine NoPanic.normal ?_
        go_wp2
        go_ret
        exact ⟨rfl, hL⟩
      · obtain ⟨k2, k3⟩ := ht3 rfl
        rw [k3] at c8
        have x0l : q2 % 18446744073709551616 < 18446744073709551616 := Nat.mod_lt _ (by decide)
        have hc0 := fun (w' : World) (h : Row w' g3 24 (C .u64 (wds q2))) => cell0 h lq2
        have e1 : bits .and .u64 ((q2 % 18446744073709551616 : Nat) : Int) 1 = 0 := by
          have := u64_and_nat (q2 % 18446744073709551616) 1 x0l (by decide)
          rw [show ((1 : Nat) : Int) = 1 from rfl] at this
          rw [this, Nat.and_one_is_mod]
          have : q2 % 18446744073709551616 % 2 = 0 := by omega
          rw [this]; rfl
        generalize q2 % 18446744073709551616 = x0 at *
        clear k2 k3 ht3 x0l
        replace r1 := r1.drew
        replace q1 := q1.drew
        replace q2r := q2r.drew
        replace q3 := q3.drew
        replace hL := below_drawn hL
        refine wp_region_noPanic ?_
        refine wp_region_held_drew (S := fun w' => Row w' w.heap.size 24 (C .u64 (wds A)) ∧ Row w' g1 24 (C .u64 (wds I)) ∧ Row w' g2 24 (C .u64 (wds q)) ∧ Row w' g3 24 (C .u64 (wds q2))) (by kernel_rfl) ⟨r1, q1, q2r, q3⟩ (fun hHeld => ?_)
        refine allReadyH_oneL (i := 0) (by kernel_rfl) rfl (by rfl) (fun K hK => ?_)
        go_simp
        refine (alive11_true _ (hT.below hL)).mono ?_
        rintro _ wn ⟨rfl, hb⟩
        replace r1 := r1.belowS hb
        replace q1 := q1.belowS hb
        replace q2r := q2r.belowS hb
        replace q3 := q3.belowS hb
        replace hL := hL.trans (hb.mono hL.size)
        clear hb
        refine hK.out _ _ ⟨r1, q1, q2r, q3⟩ (fun hHeld => ?_)
        clear hK K
        refine wpAnyH_takeL (i := 1) (v := ?v1yb) rfl (by kernel_rfl) (by kernel_rfl) (by kernel_rfl) (fun _ _ _ h => h) (by rfl) ?h1yb (by assumption) ?_
        case h1yb => intro w hSw; go_simp <;> with_reducible rfl
        simp only [Act.put, List.setIfInBounds_toArray, List.set_cons_zero, List.set_cons_succ]
        refine wpAnyH_takeL (i := 2) (v := (.agg (C .u64 (wds A)).toArray)) rfl (by kernel_rfl) (by kernel_rfl) (by kernel_rfl) (fun _ _ _ h => h) (by rfl) ?h2yb (by assumption) ?_
        case h2yb => intro w hSw; exact exec_load_R 24 _ rfl rfl hSw.1 Tryd.underlying24 (ie4 A)
        simp only [Act.put, List.setIfInBounds_toArray, List.set_cons_zero, List.set_cons_succ]
        refine wpAnyH_takeL (i := 3) (v := (.agg (C .u64 (wds I)).toArray)) rfl (by kernel_rfl) (by kernel_rfl) (by kernel_rfl) (fun _ _ _ h => h) (by rfl) ?h3yb (by assumption) ?_
        case h3yb => intro w hSw; exact exec_load_R 24 _ rfl rfl hSw.2.1 Tryd.underlying24 (ie4 I)
        simp only [Act.put, List.setIfInBounds_toArray, List.set_cons_zero, List.set_cons_succ]
        refine wpAnyH_takeL (i := 5) (v := ?v5yb) rfl (by kernel_rfl) (by kernel_rfl) (by kernel_rfl) (fun _ _ _ h => h) (by rfl) ?h5yb (by assumption) ?_
        case h5yb => intro w hSw; go_simp <;> with_reducible rfl
        simp only [Act.put, List.setIfInBounds_toArray, List.set_cons_zero, List.set_cons_succ]
        refine allReadyH_oneL (i := 4) (by kernel_rfl) rfl (by rfl) (fun K hK => ?_)
        go_simp
        refine (c7 _ (hT.below hL).p).mono ?_
        rintro _ wn ⟨rfl, hb⟩
        replace r1 := r1.belowS hb
        replace q1 := q1.belowS hb
        replace q2r := q2r.belowS hb
        replace q3 := q3.belowS hb
        replace hL := hL.trans (hb.mono hL.size)
        clear hb
        refine hK.out _ _ ⟨r1, q1, q2r, q3⟩ (fun hHeld => ?_)
        clear hK K
        refine wpAnyH_takeL (i := 6) (v := ?v6yb) rfl (by kernel_rfl) (by kernel_rfl) (by kernel_rfl) (fun _ _ _ h => h) (by rfl) ?h6yb (by assumption) ?_
        case h6yb => intro w hSw; go_simp <;> with_reducible rfl
        simp only [Act.put, List.setIfInBounds_toArray, List.set_cons_zero, List.set_cons_succ]
        refine wpAnyH_takeL (i := 7) (v := ?v7yb) rfl (by kernel_rfl) (by kernel_rfl) (by kernel_rfl) (fun _ _ _ h => h) (by rfl) ?h7yb (by assumption) ?_
        case h7yb => intro w hSw; go_simp <;> with_reducible rfl
        simp only [Act.put, List.setIfInBounds_toArray, List.set_cons_zero, List.set_cons_succ]
        refine wpAnyH_takeL (i := 8) (v := ?v8yb) rfl (by kernel_rfl) (by kernel_rfl) (by kernel_rfl) (fun _ _ _ h => h) (by rfl) ?h8yb (by assumption) ?_
        case h8yb => intro w hSw; go_simp <;> with_reducible rfl
        simp only [Act.put, List.setIfInBounds_toArray, List.set_cons_zero, List.set_cons_succ]
        refine wpAnyH_takeL (i := 9) (v := ?v9yb) rfl (by kernel_rfl) (by kernel_rfl) (by kernel_rfl) (fun _ _ _ h => h) (by rfl) ?h9yb (by assumption) ?_
        case h9yb => intro w hSw; go_simp <;> with_reducible rfl
        simp only [Act.put, List.setIfInBounds_toArray, List.set_cons_zero, List.set_cons_succ]
        refine wpAnyH_takeL (i := 10) (v := ?v10yb) rfl (by kernel_rfl) (by kernel_rfl) (by kernel_rfl) (fun _ _ _ h => h) (by rfl) ?h10yb (by assumption) ?_
        case h10yb => intro w hSw; go_simp <;> with_reducible rfl
        simp only [Act.put, List.setIfInBounds_toArray, List.set_cons_zero, List.set_cons_succ]
        refine wpAnyH_takeL (i := 11) (v := ?v11yb) rfl (by kernel_rfl) (by kernel_rfl) (by kernel_rfl) (fun _ _ _ h => h) (by rfl) ?h11yb (by assumption) ?_
        case h11yb => intro w hSw; go_simp <;> with_reducible rfl
        simp only [Act.put, List.setIfInBounds_toArray, List.set_cons_zero, List.set_cons_succ]
        refine wpAnyH_takeL (i := 12) (v := (.agg (C .u64 (wds q2)).toArray)) rfl (by kernel_rfl) (by kernel_rfl) (by kernel_rfl) (fun _ _ _ h => h) (by rfl) ?h12yb (by assumption) ?_
        case h12yb => intro w hSw; exact exec_load_R 24 _ rfl rfl hSw.2.2.2 Tryd.underlying24 (ie4 q2)
        simp only [Act.put, List.setIfInBounds_toArray, List.set_cons_zero, List.set_cons_succ]
        refine wpAnyH_takeL (i := 13) (v := (.agg (C .u64 (wds q2)).toArray)) rfl (by kernel_rfl) (by kernel_rfl) (by kernel_rfl) (fun _ _ _ h => h) (by rfl) ?h13yb (by assumption) ?_
        case h13yb => intro w hSw; exact exec_load_R 24 _ rfl rfl hSw.2.2.2 Tryd.underlying24 (ie4 q2)
        simp only [Act.put, List.setIfInBounds_toArray, List.set_cons_zero, List.set_cons_succ]
        refine wpAnyH_takeL (i := 15) (v := (.agg (C .u64 (wds A)).toArray)) rfl (by kernel_rfl) (by kernel_rfl) (by kernel_rfl) (fun _ _ _ h => h) (by rfl) ?h15yb (by assumption) ?_
        case h15yb => intro w hSw; exact exec_load_R 24 _ rfl rfl hSw.1 Tryd.underlying24 (ie4 A)
        simp only [Act.put, List.setIfInBounds_toArray, List.set_cons_zero, List.set_cons_succ]
        refine allReadyH_oneL (i := 14) (by kernel_rfl) rfl (by rfl) (fun K hK => ?_)
        go_simp
        refine (c8 _ (hT.below hL).p).mono ?_
        rintro _ wn ⟨rfl, hb⟩
        replace r1 := r1.belowS hb
        replace q1 := q1.belowS hb
        replace q2r := q2r.belowS hb
        replace q3 := q3.belowS hb
        replace hL := hL.trans (hb.mono hL.size)
        clear hb
        refine hK.out _ _ ⟨r1, q1, q2r, q3⟩ (fun hHeld => ?_)
        clear hK K
        refine allReadyH_oneL (i := 16) (by kernel_rfl) rfl (by rfl) (fun K hK => ?_)
        go_simp
        refine (c2 _ (hT.below hL).p).mono ?_
        rintro _ wn ⟨rfl, hb⟩
        replace r1 := r1.belowS hb
        replace q1 := q1.belowS hb
        replace q2r := q2r.belowS hb
        replace q3 := q3.belowS hb
        replace hL := hL.trans (hb.mono hL.size)
        clear hb
        refine hK.out _ _ ⟨r1, q1, q2r, q3⟩ (fun hHeld => ?_)
        clear hK K
        refine wpAnyH_takeL (i := 17) (v := ?v17yb) rfl (by kernel_rfl) (by kernel_rfl) (by kernel_rfl) (fun _ _ _ h => h) (by rfl) ?h17yb (by assumption) ?_
        case h17yb => intro w hSw; go_simp <;> with_reducible rfl
        simp only [Act.put, List.setIfInBounds_toArray, List.set_cons_zero, List.set_cons_succ]
        refine wpAnyH_takeL (i := 18) (v := ?v18yb) rfl (by kernel_rfl) (by kernel_rfl) (by kernel_rfl) (fun _ _ _ h => h) (by rfl) ?h18yb (by assumption) ?_
        case h18yb => intro w hSw; go_simp <;> with_reducible rfl
        simp only [Act.put, List.setIfInBounds_toArray, List.set_cons_zero, List.set_cons_succ]
        refine wpAnyH_takeL (i := 19) (v := ?v19yb) rfl (by kernel_rfl) (by kernel_rfl) (by kernel_rfl) (fun _ _ _ h => h) (by rfl) ?h19yb (by assumption) ?_
        case h19yb => intro w hSw; go_simp <;> with_reducible rfl
        simp only [Act.put, List.setIfInBounds_toArray, List.set_cons_zero, List.set_cons_succ]
        refine wpAnyH_takeL (i := 20) (v := ?v20yb) rfl (by kernel_rfl) (by kernel_rfl) (by kernel_rfl) (fun _ _ _ h => h) (by rfl) ?h20yb (by assumption) ?_
        case h20yb => intro w hSw; have c0 := hc0 _ hSw.2.2.2; go_simp <;> with_reducible rfl
        simp only [Act.put, List.setIfInBounds_toArray, List.set_cons_zero, List.set_cons_succ]
        refine wpAnyH_takeL (i := 21) (v := ?v21yb) rfl (by kernel_rfl) (by kernel_rfl) (by kernel_rfl) (fun _ _ _ h => h) (by rfl) ?h21yb (by assumption) ?_
        case h21yb => intro w hSw; go_simp <;> with_reducible rfl
        simp only [Act.put, List.setIfInBounds_toArray, List.set_cons_zero, List.set_cons_succ]
        refine wpAnyH_takeL (i := 22) (v := ?v22yb) rfl (by kernel_rfl) (by kernel_rfl) (by kernel_rfl) (fun _ _ _ h => h) (by rfl) ?h22yb (by assumption) ?_
        case h22yb => intro w hSw; go_simp <;> with_reducible rfl
        simp only [Act.put, List.setIfInBounds_toArray, List.set_cons_zero, List.set_cons_succ]
        refine wpAnyH_takeL (i := 23) (v := ?v23yb) rfl (by kernel_rfl) (by kernel_rfl) (by kernel_rfl) (fun _ _ _ h => h) (by rfl) ?h23yb (by assumption) ?_
        case h23yb => intro w hSw; go_simp <;> with_reducible rfl
        simp only [Act.put, List.setIfInBounds_toArray, List.set_cons_zero, List.set_cons_succ]
        refine wpAnyH_takeL (i := 24) (v := ?v24yb) rfl (by kernel_rfl) (by kernel_rfl) (by kernel_rfl) (fun _ _ _ h => h) (by rfl) ?h24yb (by assumption) ?_
        case h24yb => intro w hSw; go_simp <;> with_reducible rfl
        simp only [Act.put, List.setIfInBounds_toArray, List.set_cons_zero, List.set_cons_succ]
        refine wpAnyH_takeL (i := 25) (v := ?v25yb) rfl (by kernel_rfl) (by kernel_rfl) (by kernel_rfl) (fun _ _ _ h => h) (by rfl) ?h25yb (by assumption) ?_
        case h25yb => intro w hSw; go_simp <;> with_reducible rfl
        simp only [Act.put, List.setIfInBounds_toArray, List.set_cons_zero, List.set_cons_succ]
        refine wpAnyH_takeL (i := 26) (v := ?v26yb) rfl (by kernel_rfl) (by kernel_rfl) (by kernel_rfl) (fun _ _ _ h => h) (by rfl) ?h26yb (by assumption) ?_
        case h26yb => intro w hSw; go_simp <;> with_reducible rfl
        simp only [Act.put, List.setIfInBounds_toArray, List.set_cons_zero, List.set_cons_succ]
        refine wpAnyH_done (by kernel_rfl) ?_ _
        refine NoPanic.normal ?_
        go_wp2
        go_ret
        exact ⟨rfl, hL⟩

set_option maxRecDepth 100000 in
theorem lifted (os : Os) (started : os.Started) (H : Type) (enc : TypeId × Value → H) :
    ReturnsInHanded {} Tryd.checked os 9 .any (fun w args => (Rows.fieldInverseSpec.pre enc Tryd.prog Tryd.f9 [] false w args ∧ laidMetH Tryd.prog FV.laid1 w) ∧ sizedMet enc Tryd.prog Tryd.f9 (OpenSpec.ofChange Rows.fieldInverseSpec) false w args) (Rows.fieldInverseSpec.post enc Tryd.prog Tryd.f9 false true false false) := by
  refine returnsInHanded_of_change_and (C := Tryd.checked) (X := fun w _ => laidMetH Tryd.prog FV.laid1 w) (fun _ _ _ hh h => h.of_heap hh) own started (by kernel_rfl) Tryd.func9
    (ChangeSpec.witness_shaped (enc := enc) (C := Tryd.checked) (os := os) (X := fun w _ => laidMetH Tryd.prog FV.laid1 w) false (World.doorLaid Tryd.prog 400 os) #[.agg (C .u64 (Z 4)).toArray] 8 rfl (World.shaped_of_RefB (by kernel_rfl) (by kernel_rfl)) (by kernel_rfl) (by kernel_rfl) (by kernel_rfl) (FV.door_met os _)) ?_
  intro W base args ds gs before hval0 hW _ _ hLd _
  have hval : ∀ (j : Nat) t v, Tryd.f9.params[j]? = some t → args[j]? = some v → Value.okWide Tryd.prog W .any base t v := hval0
  have hW' := hW
  obtain ⟨p, q, hA0, hV, rfl, hfz, hnd⟩ := hW
  have hA : DataW.TrodAll enc Tryd.prog W 0 (fun _ => true) true Tryd.f9.params.toList args.toList ds p := hA0
  rw [Tryd.params9] at hA hval
  obtain ⟨v0, vs0, d0, ds0, p0, q0, hargs, rfl, rfl, h0, r0⟩ := trodAll_cons hA
  obtain ⟨rfl, rfl, rfl⟩ := trodAll_nil r0
  obtain rfl : args = #[v0] := by cases args; simp_all
  obtain ⟨rfl, rfl⟩ := trodVars_none hV
  have k0 := h0
  have lt0 : ∀ x ∈ p0, x.block < W.heap.size := by obtain ⟨m, hm⟩ := k0; exact DataW.trod_lt m _ _ _ hm
  obtain ⟨z0, rfl, hl0, hz0⟩ := open_array Tryd.underlying24 Tryd.underlying22 (by kernel_rfl) (by kernel_rfl) (hval 0 24 v0 rfl rfl) h0
  obtain ⟨n0, b0, e0⟩ := elem_of hl0 hz0
  rw [e0] at hW' ⊢
  rw [e0] at k0
  clear hA0 hval0
  refine (walk n0 b0 W (FV.of_laid hLd).1 (FV.of_laid hLd).2).mono fun e W' ⟨he, bel⟩ => ?_
  subst he
  exact ⟨_, rfl, _, _, _, [], _, [], hW', trodAll_mk1 (shut_bool Tryd.underlying4 _), (trodAll_cons_mk (Below.trod laidOut (by kernel_rfl) (of_decide_eq_true (by kernel_rfl)) k0 bel lt0) trodAll_mk0), rfl, bel.frame _, fun h => by cases h⟩

theorem over : Rows.fieldInverseRow.holds Tryd.pinned (OpenSpec.ofChange Rows.fieldInverseSpec) :=
  OpenClaim.holds_of_wide 9 Tryd.f9 rfl rfl rfl rfl rfl rfl rfl ⟨rfl, rfl, rfl, rfl, rfl⟩ rfl rfl rfl rfl rfl (by kernel_rfl) Tryd.func9 (by kernel_rfl)
    (of_decide_eq_true (by kernel_rfl)) (by unfold Func.isWrapper; first | (rw [if_pos (by decide +kernel)]; kernel_rfl) | (rw [if_neg (by decide +kernel)]; exact ⟨rfl, rfl⟩))
    (fun os started H enc _ => lifted os started H enc)

end Go.Proofs.YtgakpgcjninbgaaDoor.fieldInverse
namespace Go.Proofs.YtgakpgcjninbgaaDoor
/-- The given statement. -/
theorem fieldInverse_proved : Rows.FieldInverseCardSaid :=
  Claim7.holds_tied_plain_at .later [] [.data, .data, .data, .data] true (true, "15914531b4b6fb3f3d60b7b50461ce0ba9c53d0e9a41c1244df8851fa1204d2c") false
    fieldInverse.over (fun _ h => by cases h) (by kernel_rfl) (fun _ h => by cases h) fieldInverse_row_tie rfl ⟨rfl, rfl⟩ (by kernel_rfl) rfl
    (fun f fn hf hfn => by
      obtain rfl : f = 9 := Option.some.inj ((show Tryd.prog.funcNamed "affiant/affiantlaw11.FieldInverse" = some 9 by kernel_rfl).symm.trans hf) |>.symm
      obtain rfl : fn = Tryd.f9 := (Option.some.inj (Tryd.func9.symm.trans hfn)).symm
      exact ⟨by kernel_rfl, fun j t ht => by
        rw [Tryd.params9] at ht
        have hm : t ∈ ([24] : List TypeId) := by simpa using Array.mem_of_getElem? ht
        have hall : (([24] : List TypeId).all fun u => !Tryd.prog.wantsStandIn u) = true := by kernel_rfl
        exact (show Tryd.prog.wantsStandIn t = false by simpa using List.all_eq_true.1 hall t hm)⟩)
    (by kernel_rfl)
end Go.Proofs.YtgakpgcjninbgaaDoor
