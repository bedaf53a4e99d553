/-
  Proved: for every two arrays a, b of four 64-bit words the law FieldLeft returns true, and its arguments read as before. No conditions of ours; the package's variables start as their initialisers lay them, as the given card ties them.
-/
import Derived.Test.YtgakpgcjninbgaaDoorRows
import Derived.Test.YtgakpgcjninbgaaDoorCards
import Derived.Test.YtgakpgcjninbgaaDoorTie
import Derived.SevenTiedAt
import Derived.Test.YtgakpgcjninbgaaDoorLayZ
import Derived.Test.YtgakpgcjninbgaaDoorFldN
import Derived.WalkKit
import Derived.ProofKit
import Derived.OpenShut
import Derived.ShutString
import Derived.ChangeOld
import Derived.Below
namespace Go.Proofs.YtgakpgcjninbgaaDoor.fieldLeft
open Go.ChangeShapes Go.WideShapes Go.ChangeAt Go.RowKit
open F
set_option linter.unusedVariables false
set_option maxRecDepth 10000

theorem own : ownKnob Tryd.prog.godebug = none := by kernel_rfl
theorem laidOut : laidOutB Tryd.prog = true := by kernel_rfl

theorem refcmp_n {va vb : Value} {A K : Nat} (w : World) (ha : Num w va A K) (hb : RA w vb A) (hA : A < W32 ^ K) (hK : K ≤ 1000) : Calls Tryd.prog 37 #[va, vb] w fun e w' => e = .returned (.int .i64 0) ∧ Below w.heap.size w w' := by
  obtain ⟨ys, g1, g2, g3, g4⟩ := hb.num hA
  obtain ⟨xs, h1, h2, h3, h4⟩ := ha
  have := refcmp_any va vb xs ys w h1 g1 h2 g2 (by omega) (by omega)
  rw [h3, g3, cmpI_eq] at this
  exact this
theorem num_drew {w : World} {v : Value} {N K : Nat} (h : Num w v N K) : Num w.drew v N K := h
theorem ra_drew {w : World} {v : Value} {N : Nat} (h : RA w v N) : RA w.drew v N := h
theorem eP : 1 * 2 ^ 255 - 19 = P := by rw [P_pow, Nat.one_mul]
theorem e0 : errLt (1 * 2 ^ 255) 19 = 0 := by decide +kernel
theorem W8 : W32 ^ 8 = 115792089237316195423570985008687907853269984665640564039457584007913129639936 := by decide +kernel
theorem natural_el (A : Nat) (hA : A < 115792089237316195423570985008687907853269984665640564039457584007913129639936) (w : World) : Calls Tryd.prog 35 #[.agg (C .u64 (wds A)).toArray] w fun e w' => ∃ v', e = .returned v' ∧ Num w' v' A 8 ∧ Below w.heap.size w w' := F.natural_any A hA w
set_option maxHeartbeats 4000000 in
theorem walk (A : Nat) (hA : A < 115792089237316195423570985008687907853269984665640564039457584007913129639936) (B : Nat) (hB : B < 115792089237316195423570985008687907853269984665640564039457584007913129639936) (w : World) (hT : Tabs w) : Calls Tryd.prog 7 #[.agg (C .u64 (wds A)).toArray, .agg (C .u64 (wds B)).toArray] w fun e w' => e = .returned (.bool true) ∧ Below w.heap.size w w' := by
  obtain ⟨w2, h2, r1, r2, hL, hS⟩ := rows2 w 24 24 (C .u64 (wds A)) (C .u64 (wds B))
  have c1 := fmul_el A B hA hB
  have c2 := fadd_el A B hA hB
  have lM : A * B < W32 ^ 16 := by
    rw [show 16 = 8 + 8 from rfl, Nat.pow_add, W8]
    exact Nat.mul_lt_mul'' hA hB
  have lS : A + B < W32 ^ 9 := by
    rw [show 9 = 8 + 1 from rfl, Nat.pow_add, W8, show W32 ^ 1 = 4294967296 from rfl]
    omega
  have lX := mod_lt_T (A * B)
  have lY := mod_lt_T (A + B)
  have hP8 : P < W32 ^ 8 := by rw [W8]; exact P_lt
  have hP0 : P ≠ 0 := by have := P_pos; omega
  obtain ⟨a0, a1, a2, a3, hwA⟩ : ∃ a0 a1 a2 a3, wds A = [a0, a1, a2, a3] := ⟨_, _, _, _, rfl⟩
  obtain ⟨b0, b1, b2, b3, hwB⟩ : ∃ b0 b1 b2 b3, wds B = [b0, b1, b2, b3] := ⟨_, _, _, _, rfl⟩
  have gA : Value.agg #[.int .u64 (a0 : Int), .int .u64 (a1 : Int), .int .u64 (a2 : Int), .int .u64 (a3 : Int)] = .agg (C .u64 (wds A)).toArray := by rw [hwA]; rfl
  have gB : Value.agg #[.int .u64 (b0 : Int), .int .u64 (b1 : Int), .int .u64 (b2 : Int), .int .u64 (b3 : Int)] = .agg (C .u64 (wds B)).toArray := by rw [hwB]; rfl
  have kA : ∀ {w' : World}, Row w' w.heap.size 24 (C .u64 (wds A)) → w'.cell? ⟨w.heap.size, 0, none⟩ = some (.int .u64 (a0 : Int)) ∧ w'.cell? ⟨w.heap.size, 1, none⟩ = some (.int .u64 (a1 : Int)) ∧ w'.cell? ⟨w.heap.size, 2, none⟩ = some (.int .u64 (a2 : Int)) ∧ w'.cell? ⟨w.heap.size, 3, none⟩ = some (.int .u64 (a3 : Int)) := fun h => by
    rw [hwA] at h
    exact ⟨h.cell 0, h.cell 1, h.cell 2, h.cell 3⟩
  have kB : ∀ {w' : World}, Row w' (w.heap.size + 1) 24 (C .u64 (wds B)) → w'.cell? ⟨w.heap.size + 1, 0, none⟩ = some (.int .u64 (b0 : Int)) ∧ w'.cell? ⟨w.heap.size + 1, 1, none⟩ = some (.int .u64 (b1 : Int)) ∧ w'.cell? ⟨w.heap.size + 1, 2, none⟩ = some (.int .u64 (b2 : Int)) ∧ w'.cell? ⟨w.heap.size + 1, 3, none⟩ = some (.int .u64 (b3 : Int)) := fun h => by
    rw [hwB] at h
    exact ⟨h.cell 0, h.cell 1, h.cell 2, h.cell 3⟩
  replace kA := Away.mk @kA
  replace kB := Away.mk @kB
  have HE := Away.mk eP
  have H0 := Away.mk e0
  clear hwA hwB
  go_enter Tryd.func7, Tryd.ntmps7
  go_upto_region 1 with fail
  try simp only [Act.put, List.setIfInBounds_toArray, List.set_cons_zero, List.set_cons_succ, alloc_size, h2]
  clear h2
  go_wp2_with fail
  refine (_root_.Go.Proofs.YtgakpgcjninbgaaDoor.from_any 1 (by decide) _).mono ?_
  rintro _ wn ⟨v1, rfl, m1, hb⟩
  replace r1 := r1.belowS hb
  replace r2 := r2.belowS hb
  replace hL := hL.trans (hb.mono hL.size)
  have m1 := m1.ra.num (K := 1) (by decide)
  clear hb
  go_wp2_with fail
  refine (shl_n 255 _ m1 (by decide) (by decide)).mono ?_
  rintro _ wn ⟨p, rfl, mp, hb⟩
  replace r1 := r1.belowS hb
  replace r2 := r2.belowS hb
  replace hL := hL.trans (hb.mono hL.size)
  have mp := mp.num (K := 8) (by decide +kernel)
  clear hb m1
  go_wp2_with fail
  refine (_root_.Go.Proofs.YtgakpgcjninbgaaDoor.from_any 19 (by decide) _).mono ?_
  rintro _ wn ⟨v2, rfl, m2, hb⟩
  replace r1 := r1.belowS hb
  replace r2 := r2.belowS hb
  replace hL := hL.trans (hb.mono hL.size)
  replace mp := mp.below hb
  have m2 := m2.ra.num (K := 1) (by decide)
  clear hb
  go_wp2_with fail
  refine (sub_n _ mp m2 (by decide) (by decide)).mono ?_
  rintro _ wn ⟨m, rfl, mm, hb⟩
  rw [H0.out]
  rw [HE.out] at mm
  replace r1 := r1.belowS hb
  replace r2 := r2.belowS hb
  replace hL := hL.trans (hb.mono hL.size)
  have mm := mm.num hP8
  clear hb mp m2
  go_upto_region 3 with fail
  try simp only [Act.put, List.setIfInBounds_toArray, List.set_cons_zero, List.set_cons_succ]
  replace r1 := r1.drew
  replace r2 := r2.drew
  replace hL := below_drawn hL
  replace mm := num_drew mm
  refine wp_region_noPanic ?_
  refine wp_region_held_drew (S := fun w' => Row w' w.heap.size 24 (C .u64 (wds A)) ∧ Row w' (w.heap.size + 1) 24 (C .u64 (wds B))) (by kernel_rfl) ⟨r1, r2⟩ (fun hHeld => ?_)
  refine wpAnyH_takeL (i := 0) (v := (.agg (C .u64 (wds A)).toArray)) rfl (by kernel_rfl) (by kernel_rfl) (by kernel_rfl) (fun _ _ _ h => h) (by rfl) ?h0x (by assumption) ?_
  case h0x => intro w hSw; exact exec_load_R 24 _ rfl rfl hSw.1 Tryd.underlying24 (ie4 A)
  simp only [Act.put, List.setIfInBounds_toArray, List.set_cons_zero, List.set_cons_succ]
  refine wpAnyH_takeL (i := 2) (v := (.agg (C .u64 (wds B)).toArray)) rfl (by kernel_rfl) (by kernel_rfl) (by kernel_rfl) (fun _ _ _ h => h) (by rfl) ?h2x (by assumption) ?_
  case h2x => intro w hSw; exact exec_load_R 24 _ rfl rfl hSw.2 Tryd.underlying24 (ie4 B)
  simp only [Act.put, List.setIfInBounds_toArray, List.set_cons_zero, List.set_cons_succ]
  refine wpAnyH_takeL (i := 5) (v := ?v5x) rfl (by kernel_rfl) (by kernel_rfl) (by kernel_rfl) (fun _ _ _ h => h) (by rfl) ?h5x (by assumption) ?_
  case h5x => intro w hSw; go_simp <;> with_reducible rfl
  simp only [Act.put, List.setIfInBounds_toArray, List.set_cons_zero, List.set_cons_succ]
  refine allReadyH_oneL (i := 1) (by kernel_rfl) rfl (by rfl) (fun K hK => ?_)
  go_simp
  refine (natural_el A hA _).mono ?_
  rintro _ wn ⟨vax, rfl, nax, hb⟩
  replace mm := mm.below hb
  replace r1 := r1.belowS hb
  replace r2 := r2.belowS hb
  replace hL := hL.trans (hb.mono hL.size)
  clear hb
  refine hK.out _ _ ⟨r1, r2⟩ (fun hHeld => ?_)
  clear hK K
  refine allReadyH_oneL (i := 3) (by kernel_rfl) rfl (by rfl) (fun K hK => ?_)
  go_simp
  refine (natural_el B hB _).mono ?_
  rintro _ wn ⟨vbx, rfl, nbx, hb⟩
  replace mm := mm.below hb
  replace nax := nax.below hb
  replace r1 := r1.belowS hb
  replace r2 := r2.belowS hb
  replace hL := hL.trans (hb.mono hL.size)
  clear hb
  refine hK.out _ _ ⟨r1, r2⟩ (fun hHeld => ?_)
  clear hK K
  refine allReadyH_oneL (i := 4) (by kernel_rfl) rfl (by rfl) (fun K hK => ?_)
  go_simp
  refine (mul_n _ nax nbx (by decide) (by decide)).mono ?_
  rintro _ wn ⟨vox, rfl, nox, hb⟩
  replace mm := mm.below hb
  replace nax := nax.below hb
  replace nbx := nbx.below hb
  have nox := nox.num lM
  replace r1 := r1.belowS hb
  replace r2 := r2.belowS hb
  replace hL := hL.trans (hb.mono hL.size)
  clear hb
  refine hK.out _ _ ⟨r1, r2⟩ (fun hHeld => ?_)
  clear hK K
  refine allReadyH_oneL (i := 6) (by kernel_rfl) rfl (by rfl) (fun K hK => ?_)
  go_simp
  refine (div_n _ nox mm (by decide) (by decide) hP0).mono ?_
  rintro _ wn ⟨vqx, vrx, rfl, nqx, nrx, hb⟩
  replace mm := mm.below hb
  replace nax := nax.below hb
  replace nbx := nbx.below hb
  replace nox := nox.below hb
  replace r1 := r1.belowS hb
  replace r2 := r2.belowS hb
  replace hL := hL.trans (hb.mono hL.size)
  clear hb
  refine hK.out _ _ ⟨r1, r2⟩ (fun hHeld => ?_)
  clear hK K
  refine wpAnyH_takeL (i := 7) (v := ?v7x) rfl (by kernel_rfl) (by kernel_rfl) (by kernel_rfl) (fun _ _ _ h => h) (by rfl) ?h7x (by assumption) ?_
  case h7x => intro w hSw; go_simp <;> with_reducible rfl
  simp only [Act.put, List.setIfInBounds_toArray, List.set_cons_zero, List.set_cons_succ]
  refine wpAnyH_takeL (i := 8) (v := ?v8x) rfl (by kernel_rfl) (by kernel_rfl) (by kernel_rfl) (fun _ _ _ h => h) (by rfl) ?h8x (by assumption) ?_
  case h8x => intro w hSw; go_simp <;> with_reducible rfl
  simp only [Act.put, List.setIfInBounds_toArray, List.set_cons_zero, List.set_cons_succ]
  refine wpAnyH_takeL (i := 9) (v := ?v9x) rfl (by kernel_rfl) (by kernel_rfl) (by kernel_rfl) (fun _ _ _ h => h) (by rfl) ?h9x (by assumption) ?_
  case h9x => intro w hSw; go_simp <;> with_reducible rfl
  simp only [Act.put, List.setIfInBounds_toArray, List.set_cons_zero, List.set_cons_succ]
  refine wpAnyH_takeL (i := 10) (v := ?v10x) rfl (by kernel_rfl) (by kernel_rfl) (by kernel_rfl) (fun _ _ _ h => h) (by rfl) ?h10x (by assumption) ?_
  case h10x => intro w hSw; go_simp <;> with_reducible rfl
  simp only [Act.put, List.setIfInBounds_toArray, List.set_cons_zero, List.set_cons_succ]
  refine wpAnyH_takeL (i := 11) (v := ?v11x) rfl (by kernel_rfl) (by kernel_rfl) (by kernel_rfl) (fun _ _ _ h => h) (by rfl) ?h11x (by assumption) ?_
  case h11x => intro w hSw; go_simp <;> with_reducible rfl
  simp only [Act.put, List.setIfInBounds_toArray, List.set_cons_zero, List.set_cons_succ]
  refine wpAnyH_takeL (i := 12) (v := ?v12x) rfl (by kernel_rfl) (by kernel_rfl) (by kernel_rfl) (fun _ _ _ h => h) (by rfl) ?h12x (by assumption) ?_
  case h12x => intro w hSw; go_simp <;> with_reducible rfl
  simp only [Act.put, List.setIfInBounds_toArray, List.set_cons_zero, List.set_cons_succ]
  refine wpAnyH_takeL (i := 13) (v := ?v13x) rfl (by kernel_rfl) (by kernel_rfl) (by kernel_rfl) (fun _ _ _ h => h) (by rfl) ?h13x (by assumption) ?_
  case h13x => intro w hSw; go_simp <;> with_reducible rfl
  simp only [Act.put, List.setIfInBounds_toArray, List.set_cons_zero, List.set_cons_succ]
  refine wpAnyH_done (by kernel_rfl) ?_ _
  refine NoPanic.normal ?_
  clear nax nbx nox nqx
  go_upto_region 4 with fail
  try simp only [Act.put, List.setIfInBounds_toArray, List.set_cons_zero, List.set_cons_succ]
  replace r1 := r1.drew
  replace r2 := r2.drew
  replace hL := below_drawn hL
  replace mm := num_drew mm
  replace nrx := ra_drew nrx
  refine wp_region_noPanic ?_
  refine wp_region_held_drew (S := fun w' => Row w' w.heap.size 24 (C .u64 (wds A)) ∧ Row w' (w.heap.size + 1) 24 (C .u64 (wds B))) (by kernel_rfl) ⟨r1, r2⟩ (fun hHeld => ?_)
  refine wpAnyH_takeL (i := 0) (v := (.agg (C .u64 (wds A)).toArray)) rfl (by kernel_rfl) (by kernel_rfl) (by kernel_rfl) (fun _ _ _ h => h) (by rfl) ?h0y (by assumption) ?_
  case h0y => intro w hSw; exact exec_load_R 24 _ rfl rfl hSw.1 Tryd.underlying24 (ie4 A)
  simp only [Act.put, List.setIfInBounds_toArray, List.set_cons_zero, List.set_cons_succ]
  refine wpAnyH_takeL (i := 2) (v := (.agg (C .u64 (wds B)).toArray)) rfl (by kernel_rfl) (by kernel_rfl) (by kernel_rfl) (fun _ _ _ h => h) (by rfl) ?h2y (by assumption) ?_
  case h2y => intro w hSw; exact exec_load_R 24 _ rfl rfl hSw.2 Tryd.underlying24 (ie4 B)
  simp only [Act.put, List.setIfInBounds_toArray, List.set_cons_zero, List.set_cons_succ]
  refine wpAnyH_takeL (i := 5) (v := ?v5y) rfl (by kernel_rfl) (by kernel_rfl) (by kernel_rfl) (fun _ _ _ h => h) (by rfl) ?h5y (by assumption) ?_
  case h5y => intro w hSw; go_simp <;> with_reducible rfl
  simp only [Act.put, List.setIfInBounds_toArray, List.set_cons_zero, List.set_cons_succ]
  refine allReadyH_oneL (i := 1) (by kernel_rfl) rfl (by rfl) (fun K hK => ?_)
  go_simp
  refine (natural_el A hA _).mono ?_
  rintro _ wn ⟨vay, rfl, nay, hb⟩
  replace mm := mm.below hb
  replace nrx := nrx.below hb
  replace r1 := r1.belowS hb
  replace r2 := r2.belowS hb
  replace hL := hL.trans (hb.mono hL.size)
  clear hb
  refine hK.out _ _ ⟨r1, r2⟩ (fun hHeld => ?_)
  clear hK K
  refine allReadyH_oneL (i := 3) (by kernel_rfl) rfl (by rfl) (fun K hK => ?_)
  go_simp
  refine (natural_el B hB _).mono ?_
  rintro _ wn ⟨vby, rfl, nby, hb⟩
  replace mm := mm.below hb
  replace nrx := nrx.below hb
  replace nay := nay.below hb
  replace r1 := r1.belowS hb
  replace r2 := r2.belowS hb
  replace hL := hL.trans (hb.mono hL.size)
  clear hb
  refine hK.out _ _ ⟨r1, r2⟩ (fun hHeld => ?_)
  clear hK K
  refine allReadyH_oneL (i := 4) (by kernel_rfl) rfl (by rfl) (fun K hK => ?_)
  go_simp
  refine (add_n _ nay nby (by decide) (by decide)).mono ?_
  rintro _ wn ⟨voy, rfl, noy, hb⟩
  replace mm := mm.below hb
  replace nrx := nrx.below hb
  replace nay := nay.below hb
  replace nby := nby.below hb
  have noy := noy.num lS
  replace r1 := r1.belowS hb
  replace r2 := r2.belowS hb
  replace hL := hL.trans (hb.mono hL.size)
  clear hb
  refine hK.out _ _ ⟨r1, r2⟩ (fun hHeld => ?_)
  clear hK K
  refine allReadyH_oneL (i := 6) (by kernel_rfl) rfl (by rfl) (fun K hK => ?_)
  go_simp
  refine (div_n _ noy mm (by decide) (by decide) hP0).mono ?_
  rintro _ wn ⟨vqy, vry, rfl, nqy, nry, hb⟩
  replace mm := mm.below hb
  replace nrx := nrx.below hb
  replace nay := nay.below hb
  replace nby := nby.below hb
  replace noy := noy.below hb
  replace r1 := r1.belowS hb
  replace r2 := r2.belowS hb
  replace hL := hL.trans (hb.mono hL.size)
  clear hb
  refine hK.out _ _ ⟨r1, r2⟩ (fun hHeld => ?_)
  clear hK K
  refine wpAnyH_takeL (i := 7) (v := ?v7y) rfl (by kernel_rfl) (by kernel_rfl) (by kernel_rfl) (fun _ _ _ h => h) (by rfl) ?h7y (by assumption) ?_
  case h7y => intro w hSw; go_simp <;> with_reducible rfl
  simp only [Act.put, List.setIfInBounds_toArray, List.set_cons_zero, List.set_cons_succ]
  refine wpAnyH_takeL (i := 8) (v := ?v8y) rfl (by kernel_rfl) (by kernel_rfl) (by kernel_rfl) (fun _ _ _ h => h) (by rfl) ?h8y (by assumption) ?_
  case h8y => intro w hSw; go_simp <;> with_reducible rfl
  simp only [Act.put, List.setIfInBounds_toArray, List.set_cons_zero, List.set_cons_succ]
  refine wpAnyH_takeL (i := 9) (v := ?v9y) rfl (by kernel_rfl) (by kernel_rfl) (by kernel_rfl) (fun _ _ _ h => h) (by rfl) ?h9y (by assumption) ?_
  case h9y => intro w hSw; go_simp <;> with_reducible rfl
  simp only [Act.put, List.setIfInBounds_toArray, List.set_cons_zero, List.set_cons_succ]
  refine wpAnyH_takeL (i := 10) (v := ?v10y) rfl (by kernel_rfl) (by kernel_rfl) (by kernel_rfl) (fun _ _ _ h => h) (by rfl) ?h10y (by assumption) ?_
  case h10y => intro w hSw; go_simp <;> with_reducible rfl
  simp only [Act.put, List.setIfInBounds_toArray, List.set_cons_zero, List.set_cons_succ]
  refine wpAnyH_takeL (i := 11) (v := ?v11y) rfl (by kernel_rfl) (by kernel_rfl) (by kernel_rfl) (fun _ _ _ h => h) (by rfl) ?h11y (by assumption) ?_
  case h11y => intro w hSw; go_simp <;> with_reducible rfl
  simp only [Act.put, List.setIfInBounds_toArray, List.set_cons_zero, List.set_cons_succ]
  refine wpAnyH_takeL (i := 12) (v := ?v12y) rfl (by kernel_rfl) (by kernel_rfl) (by kernel_rfl) (fun _ _ _ h => h) (by rfl) ?h12y (by assumption) ?_
  case h12y => intro w hSw; go_simp <;> with_reducible rfl
  simp only [Act.put, List.setIfInBounds_toArray, List.set_cons_zero, List.set_cons_succ]
  refine wpAnyH_takeL (i := 13) (v := ?v13y) rfl (by kernel_rfl) (by kernel_rfl) (by kernel_rfl) (fun _ _ _ h => h) (by rfl) ?h13y (by assumption) ?_
  case h13y => intro w hSw; go_simp <;> with_reducible rfl
  simp only [Act.put, List.setIfInBounds_toArray, List.set_cons_zero, List.set_cons_succ]
  refine wpAnyH_done (by kernel_rfl) ?_ _
  refine NoPanic.normal ?_
  clear nay nby noy nqy mm
  go_wp2_with fail
  refine (alive11_true _ (hT.below hL)).mono ?_
  rintro _ wn ⟨rfl, hb⟩
  replace r1 := r1.belowS hb
  replace r2 := r2.belowS hb
  replace nrx := nrx.below hb
  replace nry := nry.below hb
  replace hL := hL.trans (hb.mono hL.size)
  clear hb
  obtain ⟨ka0, ka1, ka2, ka3⟩ := kA.out r1
  obtain ⟨kb0, kb1, kb2, kb3⟩ := kB.out r2
  go_wp2_with fail
  refine (c1 _ (hT.below hL).p).mono ?_
  rintro _ wn ⟨rfl, hb⟩
  replace r1 := r1.belowS hb
  replace r2 := r2.belowS hb
  replace nrx := nrx.below hb
  replace nry := nry.below hb
  replace hL := hL.trans (hb.mono hL.size)
  clear hb
  clear ka0 ka1 ka2 ka3 kb0 kb1 kb2 kb3
  go_wp2_with fail
  refine (natural_el _ lX _).mono ?_
  rintro _ wn ⟨vm, rfl, nm, hb⟩
  replace r1 := r1.belowS hb
  replace r2 := r2.belowS hb
  replace nrx := nrx.below hb
  replace nry := nry.below hb
  replace hL := hL.trans (hb.mono hL.size)
  clear hb
  go_wp2_with fail
  refine (refcmp_n _ nm nrx (by rw [W8]; exact lX) (by decide)).mono ?_
  rintro _ wn ⟨rfl, hb⟩
  replace r1 := r1.belowS hb
  replace r2 := r2.belowS hb
  replace nry := nry.below hb
  replace hL := hL.trans (hb.mono hL.size)
  clear hb
  obtain ⟨ka0, ka1, ka2, ka3⟩ := kA.out r1
  obtain ⟨kb0, kb1, kb2, kb3⟩ := kB.out r2
  go_wp2_with fail
  refine (c2 _ (hT.below hL).p).mono ?_
  rintro _ wn ⟨rfl, hb⟩
  replace nry := nry.below hb
  replace hL := hL.trans (hb.mono hL.size)
  clear hb
  clear ka0 ka1 ka2 ka3 kb0 kb1 kb2 kb3
  go_wp2_with fail
  refine (natural_el _ lY _).mono ?_
  rintro _ wn ⟨vs, rfl, ns, hb⟩
  replace nry := nry.below hb
  replace hL := hL.trans (hb.mono hL.size)
  clear hb
  go_wp2_with fail
  refine (refcmp_n _ ns nry (by rw [W8]; exact lY) (by decide)).mono ?_
  rintro _ wn ⟨rfl, hb⟩
  replace hL := hL.trans (hb.mono hL.size)
  clear hb
  go_wp2
  go_ret
  exact ⟨rfl, hL⟩

set_option maxRecDepth 100000 in
theorem lifted (os : Os) (started : os.Started) (H : Type) (enc : TypeId × Value → H) :
    ReturnsInHanded {} Tryd.checked os 7 .any (fun w args => (Rows.fieldLeftSpec.pre enc Tryd.prog Tryd.f7 [] false w args ∧ laidMetH Tryd.prog F.laid1 w) ∧ sizedMet enc Tryd.prog Tryd.f7 (OpenSpec.ofChange Rows.fieldLeftSpec) false w args) (Rows.fieldLeftSpec.post enc Tryd.prog Tryd.f7 false true false false) := by
  refine returnsInHanded_of_change_and (C := Tryd.checked) (X := fun w _ => laidMetH Tryd.prog F.laid1 w) (fun _ _ _ hh h => h.of_heap hh) own started (by kernel_rfl) Tryd.func7
    (ChangeSpec.witness_shaped (enc := enc) (C := Tryd.checked) (os := os) (X := fun w _ => laidMetH Tryd.prog F.laid1 w) false (World.doorLaid Tryd.prog 400 os) #[.agg (C .u64 (Z 4)).toArray, .agg (C .u64 (Z 4)).toArray] 8 rfl (World.shaped_of_RefB (by kernel_rfl) (by kernel_rfl)) (by kernel_rfl) (by kernel_rfl) (by kernel_rfl) (F.door_met os _)) ?_
  intro W base args ds gs before hval0 hW _ _ hLd _
  have hval : ∀ (j : Nat) t v, Tryd.f7.params[j]? = some t → args[j]? = some v → Value.okWide Tryd.prog W .any base t v := hval0
  have hW' := hW
  obtain ⟨p, q, hA0, hV, rfl, hfz, hnd⟩ := hW
  have hA : DataW.TrodAll enc Tryd.prog W 0 (fun _ => true) true Tryd.f7.params.toList args.toList ds p := hA0
  rw [Tryd.params7] at hA hval
  obtain ⟨v0, vs0, d0, ds0, p0, q0, hargs, rfl, rfl, h0, r0⟩ := trodAll_cons hA
  obtain ⟨v1, vs1, d1, ds1, p1, q1, rfl, rfl, rfl, h1, r1⟩ := trodAll_cons r0
  obtain ⟨rfl, rfl, rfl⟩ := trodAll_nil r1
  obtain rfl : args = #[v0, v1] := by cases args; simp_all
  obtain ⟨rfl, rfl⟩ := trodVars_none hV
  have k0 := h0
  have lt0 : ∀ x ∈ p0, x.block < W.heap.size := by obtain ⟨m, hm⟩ := k0; exact DataW.trod_lt m _ _ _ hm
  have k1 := h1
  have lt1 : ∀ x ∈ p1, x.block < W.heap.size := by obtain ⟨m, hm⟩ := k1; exact DataW.trod_lt m _ _ _ hm
  obtain ⟨z0, rfl, hl0, hz0⟩ := open_array Tryd.underlying24 Tryd.underlying22 (by kernel_rfl) (by kernel_rfl) (hval 0 24 v0 rfl rfl) h0
  obtain ⟨z1, rfl, hl1, hz1⟩ := open_array Tryd.underlying24 Tryd.underlying22 (by kernel_rfl) (by kernel_rfl) (hval 1 24 v1 rfl rfl) h1
  obtain ⟨n0, b0, e0⟩ := elem_of hl0 hz0
  obtain ⟨n1, b1, e1⟩ := elem_of hl1 hz1
  rw [e0, e1] at hW' ⊢
  rw [e0] at k0
  rw [e1] at k1
  clear hA0 hval0
  refine (walk n0 b0 n1 b1 W (F.of_laid hLd)).mono fun e W' ⟨he, bel⟩ => ?_
  subst he
  exact ⟨_, rfl, _, _, _, [], _, [], hW', trodAll_mk1 (shut_bool Tryd.underlying4 _), (trodAll_cons_mk (Below.trod laidOut (by kernel_rfl) (of_decide_eq_true (by kernel_rfl)) k0 bel lt0) (trodAll_cons_mk (Below.trod laidOut (by kernel_rfl) (of_decide_eq_true (by kernel_rfl)) k1 bel lt1) trodAll_mk0)), rfl, bel.frame _, fun h => by cases h⟩

theorem over : Rows.fieldLeftRow.holds Tryd.pinned (OpenSpec.ofChange Rows.fieldLeftSpec) :=
  OpenClaim.holds_of_wide 7 Tryd.f7 rfl rfl rfl rfl rfl rfl rfl ⟨rfl, rfl, rfl, rfl, rfl⟩ rfl rfl rfl rfl rfl (by kernel_rfl) Tryd.func7 (by kernel_rfl)
    (of_decide_eq_true (by kernel_rfl)) (by unfold Func.isWrapper; first | (rw [if_pos (by decide +kernel)]; kernel_rfl) | (rw [if_neg (by decide +kernel)]; exact ⟨rfl, rfl⟩))
    (fun os started H enc _ => lifted os started H enc)

end Go.Proofs.YtgakpgcjninbgaaDoor.fieldLeft
namespace Go.Proofs.YtgakpgcjninbgaaDoor
/-- The given statement. -/
theorem fieldLeft_proved : Rows.FieldLeftCardSaid :=
  Claim7.holds_tied_plain_at .later [] [.data, .data, .data] true (true, "15914531b4b6fb3f3d60b7b50461ce0ba9c53d0e9a41c1244df8851fa1204d2c") false
    fieldLeft.over (fun _ h => by cases h) (by kernel_rfl) (fun _ h => by cases h) fieldLeft_row_tie rfl ⟨rfl, rfl⟩ (by kernel_rfl) rfl
    (fun f fn hf hfn => by
      obtain rfl : f = 7 := Option.some.inj ((show Tryd.prog.funcNamed "affiant/affiantlaw11.FieldLeft" = some 7 by kernel_rfl).symm.trans hf) |>.symm
      obtain rfl : fn = Tryd.f7 := (Option.some.inj (Tryd.func7.symm.trans hfn)).symm
      exact ⟨by kernel_rfl, fun j t ht => by
        rw [Tryd.params7] at ht
        have hm : t ∈ ([24, 24] : List TypeId) := by simpa using Array.mem_of_getElem? ht
        have hall : (([24, 24] : List TypeId).all fun u => !Tryd.prog.wantsStandIn u) = true := by kernel_rfl
        exact (show Tryd.prog.wantsStandIn t = false by simpa using List.all_eq_true.1 hall t hm)⟩)
    (by kernel_rfl)
end Go.Proofs.YtgakpgcjninbgaaDoor
