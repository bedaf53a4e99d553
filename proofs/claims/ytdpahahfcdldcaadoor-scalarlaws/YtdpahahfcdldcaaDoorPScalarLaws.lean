/-
  Proved: for every three arrays a, b, c of four 64-bit words the law ScalarLaws returns true, and its arguments read as before. No conditions of ours; the package's variable starts as its initialiser lays it, as the given card ties it.
-/
import Derived.Test.YtdpahahfcdldcaaDoorRows
import Derived.Test.YtdpahahfcdldcaaDoorCards
import Derived.Test.YtdpahahfcdldcaaDoorTie
import Derived.SevenTiedAt
import Derived.Test.YtdpahahfcdldcaaDoorSclJ
import Derived.WalkKit
import Derived.ProofKit
import Derived.OpenShut
import Derived.ShutString
import Derived.ChangeOld
import Derived.Below
namespace Go.Proofs.YtdpahahfcdldcaaDoor.scalarLaws
open Go.ChangeShapes Go.WideShapes Go.ChangeAt Go.RowKit
open F
set_option linter.unusedVariables false
set_option maxRecDepth 10000

theorem own : ownKnob Tryd.prog.godebug = none := by kernel_rfl
theorem laidOut : laidOutB Tryd.prog = true := by kernel_rfl

theorem neg_zero (A : Nat) : (A + (Lq - A % Lq) % Lq) % Lq = 0 := by
  have h := mod_Lq_lt A
  rw [Nat.add_mod_mod, ← Nat.mod_add_mod, show A % Lq + (Lq - A % Lq) = Lq by omega, Nat.mod_self]
set_option maxHeartbeats 4000000 in
theorem walk (A : Nat) (hA : A < 115792089237316195423570985008687907853269984665640564039457584007913129639936) (B : Nat) (hB : B < 115792089237316195423570985008687907853269984665640564039457584007913129639936) (K : Nat) (hK : K < 115792089237316195423570985008687907853269984665640564039457584007913129639936) (w : World) (hT : OT w) : Calls Tryd.prog 5 #[.agg (C .u64 (wds A)).toArray, .agg (C .u64 (wds B)).toArray, .agg (C .u64 (wds K)).toArray] w fun e w' => e = .returned (.bool true) ∧ Below w.heap.size w w' := by
  obtain ⟨w2, h2, r1, r2, r3, hL, hS⟩ := rows3 w 24 24 24 (C .u64 (wds A)) (C .u64 (wds B)) (C .u64 (wds K))
  have a1 := sadd_any B K hB hK
  have a2 := smul_any A ((B + K) % Lq) hA (mod_Lq_T _)
  have a3 := smul_any A B hA hB
  have a4 := smul_any A K hA hK
  have a5 := sadd_any (A * B % Lq) (A * K % Lq) (mod_Lq_T _) (mod_Lq_T _)
  have b1 := smul_any B K hB hK
  have b2 := smul_any A (B * K % Lq) hA (mod_Lq_T _)
  have b4 := smul_any (A * B % Lq) K (mod_Lq_T _) hK
  have d2 := sadd_any A ((B + K) % Lq) hA (mod_Lq_T _)
  have d3 := sadd_any A B hA hB
  have d4 := sadd_any ((A + B) % Lq) K (mod_Lq_T _) hK
  have f2 := sadd_any B A hB hA
  have f4 := smul_any B A hB hA
  have g2 := sneg_any A hA
  have g3 := sadd_any A ((Lq - A % Lq) % Lq) hA (mod_Lq_T _)
  rw [show (A * B % Lq + A * K % Lq) % Lq = A * ((B + K) % Lq) % Lq by rw [← Nat.add_mod, ← Nat.mul_add, Nat.mul_mod A ((B + K) % Lq), Nat.mod_mod, ← Nat.mul_mod]] at a5
  rw [show A * B % Lq * K % Lq = A * (B * K % Lq) % Lq by rw [Nat.mod_mul_mod, Nat.mul_mod A (B * K % Lq), Nat.mod_mod, ← Nat.mul_mod, Nat.mul_assoc]] at b4
  rw [show ((A + B) % Lq + K) % Lq = (A + (B + K) % Lq) % Lq by rw [Nat.mod_add_mod, Nat.add_mod_mod, Nat.add_assoc]] at d4
  rw [Nat.add_comm B A] at f2
  rw [Nat.mul_comm B A] at f4
  rw [neg_zero A] at g3
  have z0 : Value.agg #[.int .u64 0, .int .u64 0, .int .u64 0, .int .u64 0] = .agg (C .u64 (wds 0)).toArray := by kernel_rfl
  have s0 : ∀ w, (Op.equalIn 10000 24 (.agg (C .u64 (wds 0)).toArray) (.agg #[.int .u64 0, .int .u64 0, .int .u64 0, .int .u64 0])).run Tryd.prog w = .ok true w := fun w => by rw [z0]; exact same4 0 (by decide) w
  clear z0
  obtain ⟨X1, hX1⟩ : ∃ x, A * ((B + K) % Lq) % Lq = x := ⟨_, rfl⟩
  have lX1 : X1 < 115792089237316195423570985008687907853269984665640564039457584007913129639936 := by rw [← hX1]; exact mod_Lq_T _
  have sX1 := same4 X1 lX1
  rw [hX1] at a2 a5
  clear hX1
  obtain ⟨X2, hX2⟩ : ∃ x, A * (B * K % Lq) % Lq = x := ⟨_, rfl⟩
  have lX2 : X2 < 115792089237316195423570985008687907853269984665640564039457584007913129639936 := by rw [← hX2]; exact mod_Lq_T _
  have sX2 := same4 X2 lX2
  rw [hX2] at b2 b4
  clear hX2
  obtain ⟨X3, hX3⟩ : ∃ x, (A + (B + K) % Lq) % Lq = x := ⟨_, rfl⟩
  have lX3 : X3 < 115792089237316195423570985008687907853269984665640564039457584007913129639936 := by rw [← hX3]; exact mod_Lq_T _
  have sX3 := same4 X3 lX3
  rw [hX3] at d2 d4
  clear hX3
  obtain ⟨Y1, hY1⟩ : ∃ x, (B + K) % Lq = x := ⟨_, rfl⟩
  have lY1 : Y1 < 115792089237316195423570985008687907853269984665640564039457584007913129639936 := by rw [← hY1]; exact mod_Lq_T _
  have sY1 := same4 Y1 lY1
  rw [hY1] at a1 a2 d2
  clear hY1
  obtain ⟨Y2, hY2⟩ : ∃ x, B * K % Lq = x := ⟨_, rfl⟩
  have lY2 : Y2 < 115792089237316195423570985008687907853269984665640564039457584007913129639936 := by rw [← hY2]; exact mod_Lq_T _
  have sY2 := same4 Y2 lY2
  rw [hY2] at b1 b2
  clear hY2
  obtain ⟨Y3, hY3⟩ : ∃ x, A * B % Lq = x := ⟨_, rfl⟩
  have lY3 : Y3 < 115792089237316195423570985008687907853269984665640564039457584007913129639936 := by rw [← hY3]; exact mod_Lq_T _
  have sY3 := same4 Y3 lY3
  rw [hY3] at a3 a5 b4 f4
  clear hY3
  obtain ⟨Y4, hY4⟩ : ∃ x, A * K % Lq = x := ⟨_, rfl⟩
  have lY4 : Y4 < 115792089237316195423570985008687907853269984665640564039457584007913129639936 := by rw [← hY4]; exact mod_Lq_T _
  have sY4 := same4 Y4 lY4
  rw [hY4] at a4 a5
  clear hY4
  obtain ⟨Y5, hY5⟩ : ∃ x, (A + B) % Lq = x := ⟨_, rfl⟩
  have lY5 : Y5 < 115792089237316195423570985008687907853269984665640564039457584007913129639936 := by rw [← hY5]; exact mod_Lq_T _
  have sY5 := same4 Y5 lY5
  rw [hY5] at d3 d4 f2
  clear hY5
  obtain ⟨Y6, hY6⟩ : ∃ x, (Lq - A % Lq) % Lq = x := ⟨_, rfl⟩
  have lY6 : Y6 < 115792089237316195423570985008687907853269984665640564039457584007913129639936 := by rw [← hY6]; exact mod_Lq_T _
  have sY6 := same4 Y6 lY6
  rw [hY6] at g2 g3
  clear hY6
  go_enter Tryd.func5, Tryd.ntmps5
  go_upto_region 1 with fail
  try simp only [Act.put, List.setIfInBounds_toArray, List.set_cons_zero, List.set_cons_succ, alloc_size, h2]
  clear h2
  replace r1 := r1.drew
  replace r2 := r2.drew
  replace r3 := r3.drew
  replace hL := below_drawn hL
  refine wp_region_noPanic ?_
  refine wp_region_held_drew (S := fun w' => Row w' w.heap.size 24 (C .u64 (wds A)) ∧ Row w' (w.heap.size + 1) 24 (C .u64 (wds B)) ∧ Row w' (w.heap.size + 1 + 1) 24 (C .u64 (wds K))) (by kernel_rfl) ⟨r1, r2, r3⟩ (fun hHeld => ?_)
  refine wpAnyH_takeL (i := 0) (v := (.agg (C .u64 (wds A)).toArray)) rfl (by kernel_rfl) (by kernel_rfl) (by kernel_rfl) (fun _ _ _ h => h) (by rfl) ?h0a (by assumption) ?_
  case h0a => intro w hSw; exact exec_load_R 24 _ rfl rfl hSw.1 Tryd.underlying24 (ie4 A)
  simp only [Act.put, List.setIfInBounds_toArray, List.set_cons_zero, List.set_cons_succ]
  refine wpAnyH_takeL (i := 1) (v := (.agg (C .u64 (wds B)).toArray)) rfl (by kernel_rfl) (by kernel_rfl) (by kernel_rfl) (fun _ _ _ h => h) (by rfl) ?h1a (by assumption) ?_
  case h1a => intro w hSw; exact exec_load_R 24 _ rfl rfl hSw.2.1 Tryd.underlying24 (ie4 B)
  simp only [Act.put, List.setIfInBounds_toArray, List.set_cons_zero, List.set_cons_succ]
  refine wpAnyH_takeL (i := 2) (v := (.agg (C .u64 (wds K)).toArray)) rfl (by kernel_rfl) (by kernel_rfl) (by kernel_rfl) (fun _ _ _ h => h) (by rfl) ?h2a (by assumption) ?_
  case h2a => intro w hSw; exact exec_load_R 24 _ rfl rfl hSw.2.2 Tryd.underlying24 (ie4 K)
  simp only [Act.put, List.setIfInBounds_toArray, List.set_cons_zero, List.set_cons_succ]
  refine wpAnyH_takeL (i := 5) (v := (.agg (C .u64 (wds A)).toArray)) rfl (by kernel_rfl) (by kernel_rfl) (by kernel_rfl) (fun _ _ _ h => h) (by rfl) ?h5a (by assumption) ?_
  case h5a => intro w hSw; exact exec_load_R 24 _ rfl rfl hSw.1 Tryd.underlying24 (ie4 A)
  simp only [Act.put, List.setIfInBounds_toArray, List.set_cons_zero, List.set_cons_succ]
  refine wpAnyH_takeL (i := 6) (v := (.agg (C .u64 (wds B)).toArray)) rfl (by kernel_rfl) (by kernel_rfl) (by kernel_rfl) (fun _ _ _ h => h) (by rfl) ?h6a (by assumption) ?_
  case h6a => intro w hSw; exact exec_load_R 24 _ rfl rfl hSw.2.1 Tryd.underlying24 (ie4 B)
  simp only [Act.put, List.setIfInBounds_toArray, List.set_cons_zero, List.set_cons_succ]
  refine wpAnyH_takeL (i := 8) (v := (.agg (C .u64 (wds A)).toArray)) rfl (by kernel_rfl) (by kernel_rfl) (by kernel_rfl) (fun _ _ _ h => h) (by rfl) ?h8a (by assumption) ?_
  case h8a => intro w hSw; exact exec_load_R 24 _ rfl rfl hSw.1 Tryd.underlying24 (ie4 A)
  simp only [Act.put, List.setIfInBounds_toArray, List.set_cons_zero, List.set_cons_succ]
  refine wpAnyH_takeL (i := 9) (v := (.agg (C .u64 (wds K)).toArray)) rfl (by kernel_rfl) (by kernel_rfl) (by kernel_rfl) (fun _ _ _ h => h) (by rfl) ?h9a (by assumption) ?_
  case h9a => intro w hSw; exact exec_load_R 24 _ rfl rfl hSw.2.2 Tryd.underlying24 (ie4 K)
  simp only [Act.put, List.setIfInBounds_toArray, List.set_cons_zero, List.set_cons_succ]
  refine allReadyH_oneL (i := 3) (by kernel_rfl) rfl (by rfl) (fun K hK => ?_)
  go_simp
  refine (a1 _ (hT.below hL)).mono ?_
  rintro _ wn ⟨rfl, hb⟩
  replace r1 := r1.belowS hb
  replace r2 := r2.belowS hb
  replace r3 := r3.belowS hb
  replace hL := hL.trans (hb.mono hL.size)
  clear hb
  refine hK.out _ _ ⟨r1, r2, r3⟩ (fun hHeld => ?_)
  clear hK K
  refine allReadyH_oneL (i := 4) (by kernel_rfl) rfl (by rfl) (fun K hK => ?_)
  go_simp
  refine (a2 _ (hT.below hL)).mono ?_
  rintro _ wn ⟨rfl, hb⟩
  replace r1 := r1.belowS hb
  replace r2 := r2.belowS hb
  replace r3 := r3.belowS hb
  replace hL := hL.trans (hb.mono hL.size)
  clear hb
  refine hK.out _ _ ⟨r1, r2, r3⟩ (fun hHeld => ?_)
  clear hK K
  refine allReadyH_oneL (i := 7) (by kernel_rfl) rfl (by rfl) (fun K hK => ?_)
  go_simp
  refine (a3 _ (hT.below hL)).mono ?_
  rintro _ wn ⟨rfl, hb⟩
  replace r1 := r1.belowS hb
  replace r2 := r2.belowS hb
  replace r3 := r3.belowS hb
  replace hL := hL.trans (hb.mono hL.size)
  clear hb
  refine hK.out _ _ ⟨r1, r2, r3⟩ (fun hHeld => ?_)
  clear hK K
  refine allReadyH_oneL (i := 10) (by kernel_rfl) rfl (by rfl) (fun K hK => ?_)
  go_simp
  refine (a4 _ (hT.below hL)).mono ?_
  rintro _ wn ⟨rfl, hb⟩
  replace r1 := r1.belowS hb
  replace r2 := r2.belowS hb
  replace r3 := r3.belowS hb
  replace hL := hL.trans (hb.mono hL.size)
  clear hb
  refine hK.out _ _ ⟨r1, r2, r3⟩ (fun hHeld => ?_)
  clear hK K
  refine allReadyH_oneL (i := 11) (by kernel_rfl) rfl (by rfl) (fun K hK => ?_)
  go_simp
  refine (a5 _ (hT.below hL)).mono ?_
  rintro _ wn ⟨rfl, hb⟩
  replace r1 := r1.belowS hb
  replace r2 := r2.belowS hb
  replace r3 := r3.belowS hb
  replace hL := hL.trans (hb.mono hL.size)
  clear hb
  refine hK.out _ _ ⟨r1, r2, r3⟩ (fun hHeld => ?_)
  clear hK K
  refine wpAnyH_takeL (i := 12) (v := ?v12a) rfl (by kernel_rfl) (by kernel_rfl) (by kernel_rfl) (fun _ _ _ h => h) (by rfl) ?h12a (by assumption) ?_
  case h12a => intro w hSw; go_simp <;> with_reducible rfl
  simp only [Act.put, List.setIfInBounds_toArray, List.set_cons_zero, List.set_cons_succ]
  refine wpAnyH_takeL (i := 13) (v := ?v13a) rfl (by kernel_rfl) (by kernel_rfl) (by kernel_rfl) (fun _ _ _ h => h) (by rfl) ?h13a (by assumption) ?_
  case h13a => intro w hSw; go_simp <;> with_reducible rfl
  simp only [Act.put, List.setIfInBounds_toArray, List.set_cons_zero, List.set_cons_succ]
  refine wpAnyH_done (by kernel_rfl) ?_ _
  refine NoPanic.normal ?_
  go_upto_region 2 with fail
  try simp only [Act.put, List.setIfInBounds_toArray, List.set_cons_zero, List.set_cons_succ]
  replace r1 := r1.drew
  replace r2 := r2.drew
  replace r3 := r3.drew
  replace hL := below_drawn hL
  refine wp_region_noPanic ?_
  refine wp_region_held_drew (S := fun w' => Row w' w.heap.size 24 (C .u64 (wds A)) ∧ Row w' (w.heap.size + 1) 24 (C .u64 (wds B)) ∧ Row w' (w.heap.size + 1 + 1) 24 (C .u64 (wds K))) (by kernel_rfl) ⟨r1, r2, r3⟩ (fun hHeld => ?_)
  refine wpAnyH_takeL (i := 0) (v := (.agg (C .u64 (wds A)).toArray)) rfl (by kernel_rfl) (by kernel_rfl) (by kernel_rfl) (fun _ _ _ h => h) (by rfl) ?h0b (by assumption) ?_
  case h0b => intro w hSw; exact exec_load_R 24 _ rfl rfl hSw.1 Tryd.underlying24 (ie4 A)
  simp only [Act.put, List.setIfInBounds_toArray, List.set_cons_zero, List.set_cons_succ]
  refine wpAnyH_takeL (i := 1) (v := (.agg (C .u64 (wds B)).toArray)) rfl (by kernel_rfl) (by kernel_rfl) (by kernel_rfl) (fun _ _ _ h => h) (by rfl) ?h1b (by assumption) ?_
  case h1b => intro w hSw; exact exec_load_R 24 _ rfl rfl hSw.2.1 Tryd.underlying24 (ie4 B)
  simp only [Act.put, List.setIfInBounds_toArray, List.set_cons_zero, List.set_cons_succ]
  refine wpAnyH_takeL (i := 2) (v := (.agg (C .u64 (wds K)).toArray)) rfl (by kernel_rfl) (by kernel_rfl) (by kernel_rfl) (fun _ _ _ h => h) (by rfl) ?h2b (by assumption) ?_
  case h2b => intro w hSw; exact exec_load_R 24 _ rfl rfl hSw.2.2 Tryd.underlying24 (ie4 K)
  simp only [Act.put, List.setIfInBounds_toArray, List.set_cons_zero, List.set_cons_succ]
  refine wpAnyH_takeL (i := 5) (v := (.agg (C .u64 (wds A)).toArray)) rfl (by kernel_rfl) (by kernel_rfl) (by kernel_rfl) (fun _ _ _ h => h) (by rfl) ?h5b (by assumption) ?_
  case h5b => intro w hSw; exact exec_load_R 24 _ rfl rfl hSw.1 Tryd.underlying24 (ie4 A)
  simp only [Act.put, List.setIfInBounds_toArray, List.set_cons_zero, List.set_cons_succ]
  refine wpAnyH_takeL (i := 6) (v := (.agg (C .u64 (wds B)).toArray)) rfl (by kernel_rfl) (by kernel_rfl) (by kernel_rfl) (fun _ _ _ h => h) (by rfl) ?h6b (by assumption) ?_
  case h6b => intro w hSw; exact exec_load_R 24 _ rfl rfl hSw.2.1 Tryd.underlying24 (ie4 B)
  simp only [Act.put, List.setIfInBounds_toArray, List.set_cons_zero, List.set_cons_succ]
  refine wpAnyH_takeL (i := 8) (v := (.agg (C .u64 (wds K)).toArray)) rfl (by kernel_rfl) (by kernel_rfl) (by kernel_rfl) (fun _ _ _ h => h) (by rfl) ?h8b (by assumption) ?_
  case h8b => intro w hSw; exact exec_load_R 24 _ rfl rfl hSw.2.2 Tryd.underlying24 (ie4 K)
  simp only [Act.put, List.setIfInBounds_toArray, List.set_cons_zero, List.set_cons_succ]
  refine allReadyH_oneL (i := 3) (by kernel_rfl) rfl (by rfl) (fun K hK => ?_)
  go_simp
  refine (b1 _ (hT.below hL)).mono ?_
  rintro _ wn ⟨rfl, hb⟩
  replace r1 := r1.belowS hb
  replace r2 := r2.belowS hb
  replace r3 := r3.belowS hb
  replace hL := hL.trans (hb.mono hL.size)
  clear hb
  refine hK.out _ _ ⟨r1, r2, r3⟩ (fun hHeld => ?_)
  clear hK K
  refine allReadyH_oneL (i := 4) (by kernel_rfl) rfl (by rfl) (fun K hK => ?_)
  go_simp
  refine (b2 _ (hT.below hL)).mono ?_
  rintro _ wn ⟨rfl, hb⟩
  replace r1 := r1.belowS hb
  replace r2 := r2.belowS hb
  replace r3 := r3.belowS hb
  replace hL := hL.trans (hb.mono hL.size)
  clear hb
  refine hK.out _ _ ⟨r1, r2, r3⟩ (fun hHeld => ?_)
  clear hK K
  refine allReadyH_oneL (i := 7) (by kernel_rfl) rfl (by rfl) (fun K hK => ?_)
  go_simp
  refine (a3 _ (hT.below hL)).mono ?_
  rintro _ wn ⟨rfl, hb⟩
  replace r1 := r1.belowS hb
  replace r2 := r2.belowS hb
  replace r3 := r3.belowS hb
  replace hL := hL.trans (hb.mono hL.size)
  clear hb
  refine hK.out _ _ ⟨r1, r2, r3⟩ (fun hHeld => ?_)
  clear hK K
  refine allReadyH_oneL (i := 9) (by kernel_rfl) rfl (by rfl) (fun K hK => ?_)
  go_simp
  refine (b4 _ (hT.below hL)).mono ?_
  rintro _ wn ⟨rfl, hb⟩
  replace r1 := r1.belowS hb
  replace r2 := r2.belowS hb
  replace r3 := r3.belowS hb
  replace hL := hL.trans (hb.mono hL.size)
  clear hb
  refine hK.out _ _ ⟨r1, r2, r3⟩ (fun hHeld => ?_)
  clear hK K
  refine wpAnyH_takeL (i := 10) (v := ?v10b) rfl (by kernel_rfl) (by kernel_rfl) (by kernel_rfl) (fun _ _ _ h => h) (by rfl) ?h10b (by assumption) ?_
  case h10b => intro w hSw; go_simp <;> with_reducible rfl
  simp only [Act.put, List.setIfInBounds_toArray, List.set_cons_zero, List.set_cons_succ]
  refine wpAnyH_takeL (i := 11) (v := ?v11b) rfl (by kernel_rfl) (by kernel_rfl) (by kernel_rfl) (fun _ _ _ h => h) (by rfl) ?h11b (by assumption) ?_
  case h11b => intro w hSw; go_simp <;> with_reducible rfl
  simp only [Act.put, List.setIfInBounds_toArray, List.set_cons_zero, List.set_cons_succ]
  refine wpAnyH_done (by kernel_rfl) ?_ _
  refine NoPanic.normal ?_
  go_upto_region 3 with fail
  try simp only [Act.put, List.setIfInBounds_toArray, List.set_cons_zero, List.set_cons_succ]
  replace r1 := r1.drew
  replace r2 := r2.drew
  replace r3 := r3.drew
  replace hL := below_drawn hL
  refine wp_region_noPanic ?_
  refine wp_region_held_drew (S := fun w' => Row w' w.heap.size 24 (C .u64 (wds A)) ∧ Row w' (w.heap.size + 1) 24 (C .u64 (wds B)) ∧ Row w' (w.heap.size + 1 + 1) 24 (C .u64 (wds K))) (by kernel_rfl) ⟨r1, r2, r3⟩ (fun hHeld => ?_)
  refine wpAnyH_takeL (i := 0) (v := (.agg (C .u64 (wds A)).toArray)) rfl (by kernel_rfl) (by kernel_rfl) (by kernel_rfl) (fun _ _ _ h => h) (by rfl) ?h0c (by assumption) ?_
  case h0c => intro w hSw; exact exec_load_R 24 _ rfl rfl hSw.1 Tryd.underlying24 (ie4 A)
  simp only [Act.put, List.setIfInBounds_toArray, List.set_cons_zero, List.set_cons_succ]
  refine wpAnyH_takeL (i := 1) (v := (.agg (C .u64 (wds B)).toArray)) rfl (by kernel_rfl) (by kernel_rfl) (by kernel_rfl) (fun _ _ _ h => h) (by rfl) ?h1c (by assumption) ?_
  case h1c => intro w hSw; exact exec_load_R 24 _ rfl rfl hSw.2.1 Tryd.underlying24 (ie4 B)
  simp only [Act.put, List.setIfInBounds_toArray, List.set_cons_zero, List.set_cons_succ]
  refine wpAnyH_takeL (i := 2) (v := (.agg (C .u64 (wds K)).toArray)) rfl (by kernel_rfl) (by kernel_rfl) (by kernel_rfl) (fun _ _ _ h => h) (by rfl) ?h2c (by assumption) ?_
  case h2c => intro w hSw; exact exec_load_R 24 _ rfl rfl hSw.2.2 Tryd.underlying24 (ie4 K)
  simp only [Act.put, List.setIfInBounds_toArray, List.set_cons_zero, List.set_cons_succ]
  refine wpAnyH_takeL (i := 5) (v := (.agg (C .u64 (wds A)).toArray)) rfl (by kernel_rfl) (by kernel_rfl) (by kernel_rfl) (fun _ _ _ h => h) (by rfl) ?h5c (by assumption) ?_
  case h5c => intro w hSw; exact exec_load_R 24 _ rfl rfl hSw.1 Tryd.underlying24 (ie4 A)
  simp only [Act.put, List.setIfInBounds_toArray, List.set_cons_zero, List.set_cons_succ]
  refine wpAnyH_takeL (i := 6) (v := (.agg (C .u64 (wds B)).toArray)) rfl (by kernel_rfl) (by kernel_rfl) (by kernel_rfl) (fun _ _ _ h => h) (by rfl) ?h6c (by assumption) ?_
  case h6c => intro w hSw; exact exec_load_R 24 _ rfl rfl hSw.2.1 Tryd.underlying24 (ie4 B)
  simp only [Act.put, List.setIfInBounds_toArray, List.set_cons_zero, List.set_cons_succ]
  refine wpAnyH_takeL (i := 8) (v := (.agg (C .u64 (wds K)).toArray)) rfl (by kernel_rfl) (by kernel_rfl) (by kernel_rfl) (fun _ _ _ h => h) (by rfl) ?h8c (by assumption) ?_
  case h8c => intro w hSw; exact exec_load_R 24 _ rfl rfl hSw.2.2 Tryd.underlying24 (ie4 K)
  simp only [Act.put, List.setIfInBounds_toArray, List.set_cons_zero, List.set_cons_succ]
  refine allReadyH_oneL (i := 3) (by kernel_rfl) rfl (by rfl) (fun K hK => ?_)
  go_simp
  refine (a1 _ (hT.below hL)).mono ?_
  rintro _ wn ⟨rfl, hb⟩
  replace r1 := r1.belowS hb
  replace r2 := r2.belowS hb
  replace r3 := r3.belowS hb
  replace hL := hL.trans (hb.mono hL.size)
  clear hb
  refine hK.out _ _ ⟨r1, r2, r3⟩ (fun hHeld => ?_)
  clear hK K
  refine allReadyH_oneL (i := 4) (by kernel_rfl) rfl (by rfl) (fun K hK => ?_)
  go_simp
  refine (d2 _ (hT.below hL)).mono ?_
  rintro _ wn ⟨rfl, hb⟩
  replace r1 := r1.belowS hb
  replace r2 := r2.belowS hb
  replace r3 := r3.belowS hb
  replace hL := hL.trans (hb.mono hL.size)
  clear hb
  refine hK.out _ _ ⟨r1, r2, r3⟩ (fun hHeld => ?_)
  clear hK K
  refine allReadyH_oneL (i := 7) (by kernel_rfl) rfl (by rfl) (fun K hK => ?_)
  go_simp
  refine (d3 _ (hT.below hL)).mono ?_
  rintro _ wn ⟨rfl, hb⟩
  replace r1 := r1.belowS hb
  replace r2 := r2.belowS hb
  replace r3 := r3.belowS hb
  replace hL := hL.trans (hb.mono hL.size)
  clear hb
  refine hK.out _ _ ⟨r1, r2, r3⟩ (fun hHeld => ?_)
  clear hK K
  refine allReadyH_oneL (i := 9) (by kernel_rfl) rfl (by rfl) (fun K hK => ?_)
  go_simp
  refine (d4 _ (hT.below hL)).mono ?_
  rintro _ wn ⟨rfl, hb⟩
  replace r1 := r1.belowS hb
  replace r2 := r2.belowS hb
  replace r3 := r3.belowS hb
  replace hL := hL.trans (hb.mono hL.size)
  clear hb
  refine hK.out _ _ ⟨r1, r2, r3⟩ (fun hHeld => ?_)
  clear hK K
  refine wpAnyH_takeL (i := 10) (v := ?v10c) rfl (by kernel_rfl) (by kernel_rfl) (by kernel_rfl) (fun _ _ _ h => h) (by rfl) ?h10c (by assumption) ?_
  case h10c => intro w hSw; go_simp <;> with_reducible rfl
  simp only [Act.put, List.setIfInBounds_toArray, List.set_cons_zero, List.set_cons_succ]
  refine wpAnyH_takeL (i := 11) (v := ?v11c) rfl (by kernel_rfl) (by kernel_rfl) (by kernel_rfl) (fun _ _ _ h => h) (by rfl) ?h11c (by assumption) ?_
  case h11c => intro w hSw; go_simp <;> with_reducible rfl
  simp only [Act.put, List.setIfInBounds_toArray, List.set_cons_zero, List.set_cons_succ]
  refine wpAnyH_done (by kernel_rfl) ?_ _
  refine NoPanic.normal ?_
  go_upto_region 4 with fail
  try simp only [Act.put, List.setIfInBounds_toArray, List.set_cons_zero, List.set_cons_succ]
  replace r1 := r1.drew
  replace r2 := r2.drew
  replace r3 := r3.drew
  replace hL := below_drawn hL
  refine wp_region_noPanic ?_
  refine wp_region_held_drew (S := fun w' => Row w' w.heap.size 24 (C .u64 (wds A)) ∧ Row w' (w.heap.size + 1) 24 (C .u64 (wds B)) ∧ Row w' (w.heap.size + 1 + 1) 24 (C .u64 (wds K))) (by kernel_rfl) ⟨r1, r2, r3⟩ (fun hHeld => ?_)
  refine wpAnyH_takeL (i := 0) (v := (.agg (C .u64 (wds A)).toArray)) rfl (by kernel_rfl) (by kernel_rfl) (by kernel_rfl) (fun _ _ _ h => h) (by rfl) ?h0d (by assumption) ?_
  case h0d => intro w hSw; exact exec_load_R 24 _ rfl rfl hSw.1 Tryd.underlying24 (ie4 A)
  simp only [Act.put, List.setIfInBounds_toArray, List.set_cons_zero, List.set_cons_succ]
  refine wpAnyH_takeL (i := 1) (v := (.agg (C .u64 (wds B)).toArray)) rfl (by kernel_rfl) (by kernel_rfl) (by kernel_rfl) (fun _ _ _ h => h) (by rfl) ?h1d (by assumption) ?_
  case h1d => intro w hSw; exact exec_load_R 24 _ rfl rfl hSw.2.1 Tryd.underlying24 (ie4 B)
  simp only [Act.put, List.setIfInBounds_toArray, List.set_cons_zero, List.set_cons_succ]
  refine wpAnyH_takeL (i := 3) (v := (.agg (C .u64 (wds B)).toArray)) rfl (by kernel_rfl) (by kernel_rfl) (by kernel_rfl) (fun _ _ _ h => h) (by rfl) ?h3d (by assumption) ?_
  case h3d => intro w hSw; exact exec_load_R 24 _ rfl rfl hSw.2.1 Tryd.underlying24 (ie4 B)
  simp only [Act.put, List.setIfInBounds_toArray, List.set_cons_zero, List.set_cons_succ]
  refine wpAnyH_takeL (i := 4) (v := (.agg (C .u64 (wds A)).toArray)) rfl (by kernel_rfl) (by kernel_rfl) (by kernel_rfl) (fun _ _ _ h => h) (by rfl) ?h4d (by assumption) ?_
  case h4d => intro w hSw; exact exec_load_R 24 _ rfl rfl hSw.1 Tryd.underlying24 (ie4 A)
  simp only [Act.put, List.setIfInBounds_toArray, List.set_cons_zero, List.set_cons_succ]
  refine allReadyH_oneL (i := 2) (by kernel_rfl) rfl (by rfl) (fun K hK => ?_)
  go_simp
  refine (d3 _ (hT.below hL)).mono ?_
  rintro _ wn ⟨rfl, hb⟩
  replace r1 := r1.belowS hb
  replace r2 := r2.belowS hb
  replace r3 := r3.belowS hb
  replace hL := hL.trans (hb.mono hL.size)
  clear hb
  refine hK.out _ _ ⟨r1, r2, r3⟩ (fun hHeld => ?_)
  clear hK K
  refine allReadyH_oneL (i := 5) (by kernel_rfl) rfl (by rfl) (fun K hK => ?_)
  go_simp
  refine (f2 _ (hT.below hL)).mono ?_
  rintro _ wn ⟨rfl, hb⟩
  replace r1 := r1.belowS hb
  replace r2 := r2.belowS hb
  replace r3 := r3.belowS hb
  replace hL := hL.trans (hb.mono hL.size)
  clear hb
  refine hK.out _ _ ⟨r1, r2, r3⟩ (fun hHeld => ?_)
  clear hK K
  refine wpAnyH_takeL (i := 6) (v := ?v6d) rfl (by kernel_rfl) (by kernel_rfl) (by kernel_rfl) (fun _ _ _ h => h) (by rfl) ?h6d (by assumption) ?_
  case h6d => intro w hSw; go_simp <;> with_reducible rfl
  simp only [Act.put, List.setIfInBounds_toArray, List.set_cons_zero, List.set_cons_succ]
  refine wpAnyH_takeL (i := 7) (v := ?v7d) rfl (by kernel_rfl) (by kernel_rfl) (by kernel_rfl) (fun _ _ _ h => h) (by rfl) ?h7d (by assumption) ?_
  case h7d => intro w hSw; go_simp <;> with_reducible rfl
  simp only [Act.put, List.setIfInBounds_toArray, List.set_cons_zero, List.set_cons_succ]
  refine wpAnyH_takeL (i := 8) (v := (.agg (C .u64 (wds A)).toArray)) rfl (by kernel_rfl) (by kernel_rfl) (by kernel_rfl) (fun _ _ _ h => h) (by rfl) ?h8d (by assumption) ?_
  case h8d => intro w hSw; exact exec_load_R 24 _ rfl rfl hSw.1 Tryd.underlying24 (ie4 A)
  simp only [Act.put, List.setIfInBounds_toArray, List.set_cons_zero, List.set_cons_succ]
  refine wpAnyH_takeL (i := 9) (v := (.agg (C .u64 (wds B)).toArray)) rfl (by kernel_rfl) (by kernel_rfl) (by kernel_rfl) (fun _ _ _ h => h) (by rfl) ?h9d (by assumption) ?_
  case h9d => intro w hSw; exact exec_load_R 24 _ rfl rfl hSw.2.1 Tryd.underlying24 (ie4 B)
  simp only [Act.put, List.setIfInBounds_toArray, List.set_cons_zero, List.set_cons_succ]
  refine wpAnyH_takeL (i := 11) (v := (.agg (C .u64 (wds B)).toArray)) rfl (by kernel_rfl) (by kernel_rfl) (by kernel_rfl) (fun _ _ _ h => h) (by rfl) ?h11d (by assumption) ?_
  case h11d => intro w hSw; exact exec_load_R 24 _ rfl rfl hSw.2.1 Tryd.underlying24 (ie4 B)
  simp only [Act.put, List.setIfInBounds_toArray, List.set_cons_zero, List.set_cons_succ]
  refine wpAnyH_takeL (i := 12) (v := (.agg (C .u64 (wds A)).toArray)) rfl (by kernel_rfl) (by kernel_rfl) (by kernel_rfl) (fun _ _ _ h => h) (by rfl) ?h12d (by assumption) ?_
  case h12d => intro w hSw; exact exec_load_R 24 _ rfl rfl hSw.1 Tryd.underlying24 (ie4 A)
  simp only [Act.put, List.setIfInBounds_toArray, List.set_cons_zero, List.set_cons_succ]
  refine allReadyH_oneL (i := 10) (by kernel_rfl) rfl (by rfl) (fun K hK => ?_)
  go_simp
  refine (a3 _ (hT.below hL)).mono ?_
  rintro _ wn ⟨rfl, hb⟩
  replace r1 := r1.belowS hb
  replace r2 := r2.belowS hb
  replace r3 := r3.belowS hb
  replace hL := hL.trans (hb.mono hL.size)
  clear hb
  refine hK.out _ _ ⟨r1, r2, r3⟩ (fun hHeld => ?_)
  clear hK K
  refine allReadyH_oneL (i := 13) (by kernel_rfl) rfl (by rfl) (fun K hK => ?_)
  go_simp
  refine (f4 _ (hT.below hL)).mono ?_
  rintro _ wn ⟨rfl, hb⟩
  replace r1 := r1.belowS hb
  replace r2 := r2.belowS hb
  replace r3 := r3.belowS hb
  replace hL := hL.trans (hb.mono hL.size)
  clear hb
  refine hK.out _ _ ⟨r1, r2, r3⟩ (fun hHeld => ?_)
  clear hK K
  refine wpAnyH_takeL (i := 14) (v := ?v14d) rfl (by kernel_rfl) (by kernel_rfl) (by kernel_rfl) (fun _ _ _ h => h) (by rfl) ?h14d (by assumption) ?_
  case h14d => intro w hSw; go_simp <;> with_reducible rfl
  simp only [Act.put, List.setIfInBounds_toArray, List.set_cons_zero, List.set_cons_succ]
  refine wpAnyH_takeL (i := 15) (v := ?v15d) rfl (by kernel_rfl) (by kernel_rfl) (by kernel_rfl) (fun _ _ _ h => h) (by rfl) ?h15d (by assumption) ?_
  case h15d => intro w hSw; go_simp <;> with_reducible rfl
  simp only [Act.put, List.setIfInBounds_toArray, List.set_cons_zero, List.set_cons_succ]
  refine wpAnyH_takeL (i := 16) (v := ?v16d) rfl (by kernel_rfl) (by kernel_rfl) (by kernel_rfl) (fun _ _ _ h => h) (by rfl) ?h16d (by assumption) ?_
  case h16d => intro w hSw; go_simp <;> with_reducible rfl
  simp only [Act.put, List.setIfInBounds_toArray, List.set_cons_zero, List.set_cons_succ]
  refine wpAnyH_done (by kernel_rfl) ?_ _
  refine NoPanic.normal ?_
  go_upto_region 5 with fail
  try simp only [Act.put, List.setIfInBounds_toArray, List.set_cons_zero, List.set_cons_succ]
  replace r1 := r1.drew
  replace r2 := r2.drew
  replace r3 := r3.drew
  replace hL := below_drawn hL
  refine wp_region_noPanic ?_
  refine wp_region_held_drew (S := fun w' => Row w' w.heap.size 24 (C .u64 (wds A)) ∧ Row w' (w.heap.size + 1) 24 (C .u64 (wds B)) ∧ Row w' (w.heap.size + 1 + 1) 24 (C .u64 (wds K))) (by kernel_rfl) ⟨r1, r2, r3⟩ (fun hHeld => ?_)
  refine allReadyH_oneL (i := 0) (by kernel_rfl) rfl (by rfl) (fun K hK => ?_)
  go_simp
  refine (alive12_true _ (hT.below hL)).mono ?_
  rintro _ wn ⟨rfl, hb⟩
  replace r1 := r1.belowS hb
  replace r2 := r2.belowS hb
  replace r3 := r3.belowS hb
  replace hL := hL.trans (hb.mono hL.size)
  clear hb
  refine hK.out _ _ ⟨r1, r2, r3⟩ (fun hHeld => ?_)
  clear hK K
  refine wpAnyH_takeL (i := 1) (v := ?v1e) rfl (by kernel_rfl) (by kernel_rfl) (by kernel_rfl) (fun _ _ _ h => h) (by rfl) ?h1e (by assumption) ?_
  case h1e => intro w hSw; go_simp <;> with_reducible rfl
  simp only [Act.put, List.setIfInBounds_toArray, List.set_cons_zero, List.set_cons_succ]
  refine wpAnyH_takeL (i := 2) (v := ?v2e) rfl (by kernel_rfl) (by kernel_rfl) (by kernel_rfl) (fun _ _ _ h => h) (by rfl) ?h2e (by assumption) ?_
  case h2e => intro w hSw; go_simp <;> with_reducible rfl
  simp only [Act.put, List.setIfInBounds_toArray, List.set_cons_zero, List.set_cons_succ]
  refine wpAnyH_takeL (i := 3) (v := ?v3e) rfl (by kernel_rfl) (by kernel_rfl) (by kernel_rfl) (fun _ _ _ h => h) (by rfl) ?h3e (by assumption) ?_
  case h3e => intro w hSw; go_simp <;> with_reducible rfl
  simp only [Act.put, List.setIfInBounds_toArray, List.set_cons_zero, List.set_cons_succ]
  refine wpAnyH_takeL (i := 4) (v := ?v4e) rfl (by kernel_rfl) (by kernel_rfl) (by kernel_rfl) (fun _ _ _ h => h) (by rfl) ?h4e (by assumption) ?_
  case h4e => intro w hSw; go_simp <;> with_reducible rfl
  simp only [Act.put, List.setIfInBounds_toArray, List.set_cons_zero, List.set_cons_succ]
  refine wpAnyH_takeL (i := 5) (v := ?v5e) rfl (by kernel_rfl) (by kernel_rfl) (by kernel_rfl) (fun _ _ _ h => h) (by rfl) ?h5e (by assumption) ?_
  case h5e => intro w hSw; go_simp <;> with_reducible rfl
  simp only [Act.put, List.setIfInBounds_toArray, List.set_cons_zero, List.set_cons_succ]
  refine wpAnyH_takeL (i := 6) (v := ?v6e) rfl (by kernel_rfl) (by kernel_rfl) (by kernel_rfl) (fun _ _ _ h => h) (by rfl) ?h6e (by assumption) ?_
  case h6e => intro w hSw; go_simp <;> with_reducible rfl
  simp only [Act.put, List.setIfInBounds_toArray, List.set_cons_zero, List.set_cons_succ]
  refine wpAnyH_takeL (i := 7) (v := ?v7e) rfl (by kernel_rfl) (by kernel_rfl) (by kernel_rfl) (fun _ _ _ h => h) (by rfl) ?h7e (by assumption) ?_
  case h7e => intro w hSw; go_simp <;> with_reducible rfl
  simp only [Act.put, List.setIfInBounds_toArray, List.set_cons_zero, List.set_cons_succ]
  refine wpAnyH_takeL (i := 8) (v := ?v8e) rfl (by kernel_rfl) (by kernel_rfl) (by kernel_rfl) (fun _ _ _ h => h) (by rfl) ?h8e (by assumption) ?_
  case h8e => intro w hSw; go_simp <;> with_reducible rfl
  simp only [Act.put, List.setIfInBounds_toArray, List.set_cons_zero, List.set_cons_succ]
  refine wpAnyH_takeL (i := 9) (v := ?v9e) rfl (by kernel_rfl) (by kernel_rfl) (by kernel_rfl) (fun _ _ _ h => h) (by rfl) ?h9e (by assumption) ?_
  case h9e => intro w hSw; go_simp <;> with_reducible rfl
  simp only [Act.put, List.setIfInBounds_toArray, List.set_cons_zero, List.set_cons_succ]
  refine wpAnyH_takeL (i := 10) (v := ?v10e) rfl (by kernel_rfl) (by kernel_rfl) (by kernel_rfl) (fun _ _ _ h => h) (by rfl) ?h10e (by assumption) ?_
  case h10e => intro w hSw; go_simp <;> with_reducible rfl
  simp only [Act.put, List.setIfInBounds_toArray, List.set_cons_zero, List.set_cons_succ]
  refine wpAnyH_takeL (i := 11) (v := ?v11e) rfl (by kernel_rfl) (by kernel_rfl) (by kernel_rfl) (fun _ _ _ h => h) (by rfl) ?h11e (by assumption) ?_
  case h11e => intro w hSw; go_simp <;> with_reducible rfl
  simp only [Act.put, List.setIfInBounds_toArray, List.set_cons_zero, List.set_cons_succ]
  refine wpAnyH_takeL (i := 12) (v := ?v12e) rfl (by kernel_rfl) (by kernel_rfl) (by kernel_rfl) (fun _ _ _ h => h) (by rfl) ?h12e (by assumption) ?_
  case h12e => intro w hSw; go_simp <;> with_reducible rfl
  simp only [Act.put, List.setIfInBounds_toArray, List.set_cons_zero, List.set_cons_succ]
  refine wpAnyH_takeL (i := 13) (v := ?v13e) rfl (by kernel_rfl) (by kernel_rfl) (by kernel_rfl) (fun _ _ _ h => h) (by rfl) ?h13e (by assumption) ?_
  case h13e => intro w hSw; go_simp <;> with_reducible rfl
  simp only [Act.put, List.setIfInBounds_toArray, List.set_cons_zero, List.set_cons_succ]
  refine wpAnyH_takeL (i := 14) (v := (.agg (C .u64 (wds A)).toArray)) rfl (by kernel_rfl) (by kernel_rfl) (by kernel_rfl) (fun _ _ _ h => h) (by rfl) ?h14e (by assumption) ?_
  case h14e => intro w hSw; exact exec_load_R 24 _ rfl rfl hSw.1 Tryd.underlying24 (ie4 A)
  simp only [Act.put, List.setIfInBounds_toArray, List.set_cons_zero, List.set_cons_succ]
  refine wpAnyH_takeL (i := 15) (v := (.agg (C .u64 (wds A)).toArray)) rfl (by kernel_rfl) (by kernel_rfl) (by kernel_rfl) (fun _ _ _ h => h) (by rfl) ?h15e (by assumption) ?_
  case h15e => intro w hSw; exact exec_load_R 24 _ rfl rfl hSw.1 Tryd.underlying24 (ie4 A)
  simp only [Act.put, List.setIfInBounds_toArray, List.set_cons_zero, List.set_cons_succ]
  refine wpAnyH_takeL (i := 18) (v := ?v18e) rfl (by kernel_rfl) (by kernel_rfl) (by kernel_rfl) (fun _ _ _ h => h) (by rfl) ?h18e (by assumption) ?_
  case h18e => intro w hSw; go_simp <;> with_reducible rfl
  simp only [Act.put, List.setIfInBounds_toArray, List.set_cons_zero, List.set_cons_succ]
  refine allReadyH_oneL (i := 16) (by kernel_rfl) rfl (by rfl) (fun K hK => ?_)
  go_simp
  refine (g2 _ (hT.below hL)).mono ?_
  rintro _ wn ⟨rfl, hb⟩
  replace r1 := r1.belowS hb
  replace r2 := r2.belowS hb
  replace r3 := r3.belowS hb
  replace hL := hL.trans (hb.mono hL.size)
  clear hb
  refine hK.out _ _ ⟨r1, r2, r3⟩ (fun hHeld => ?_)
  clear hK K
  refine allReadyH_oneL (i := 17) (by kernel_rfl) rfl (by rfl) (fun K hK => ?_)
  go_simp
  refine (g3 _ (hT.below hL)).mono ?_
  rintro _ wn ⟨rfl, hb⟩
  replace r1 := r1.belowS hb
  replace r2 := r2.belowS hb
  replace r3 := r3.belowS hb
  replace hL := hL.trans (hb.mono hL.size)
  clear hb
  refine hK.out _ _ ⟨r1, r2, r3⟩ (fun hHeld => ?_)
  clear hK K
  refine wpAnyH_takeL (i := 19) (v := ?v19e) rfl (by kernel_rfl) (by kernel_rfl) (by kernel_rfl) (fun _ _ _ h => h) (by rfl) ?h19e (by assumption) ?_
  case h19e => intro w hSw; go_simp <;> with_reducible rfl
  simp only [Act.put, List.setIfInBounds_toArray, List.set_cons_zero, List.set_cons_succ]
  refine wpAnyH_takeL (i := 20) (v := ?v20e) rfl (by kernel_rfl) (by kernel_rfl) (by kernel_rfl) (fun _ _ _ h => h) (by rfl) ?h20e (by assumption) ?_
  case h20e => intro w hSw; go_simp <;> with_reducible rfl
  simp only [Act.put, List.setIfInBounds_toArray, List.set_cons_zero, List.set_cons_succ]
  refine wpAnyH_takeL (i := 21) (v := ?v21e) rfl (by kernel_rfl) (by kernel_rfl) (by kernel_rfl) (fun _ _ _ h => h) (by rfl) ?h21e (by assumption) ?_
  case h21e => intro w hSw; go_simp <;> with_reducible rfl
  simp only [Act.put, List.setIfInBounds_toArray, List.set_cons_zero, List.set_cons_succ]
  refine wpAnyH_done (by kernel_rfl) ?_ _
  refine NoPanic.normal ?_
  go_wp2
  go_ret
  exact ⟨rfl, hL⟩

set_option maxRecDepth 100000 in
theorem lifted (os : Os) (started : os.Started) (H : Type) (enc : TypeId × Value → H) :
    ReturnsInHanded {} Tryd.checked os 5 .any (fun w args => (Rows.scalarLawsSpec.pre enc Tryd.prog Tryd.f5 [] false w args ∧ laidMetH Tryd.prog F.laid1 w) ∧ sizedMet enc Tryd.prog Tryd.f5 (OpenSpec.ofChange Rows.scalarLawsSpec) false w args) (Rows.scalarLawsSpec.post enc Tryd.prog Tryd.f5 false true false false) := by
  refine returnsInHanded_of_change_and (C := Tryd.checked) (X := fun w _ => laidMetH Tryd.prog F.laid1 w) (fun _ _ _ hh h => h.of_heap hh) own started (by kernel_rfl) Tryd.func5
    (ChangeSpec.witness_shaped (enc := enc) (C := Tryd.checked) (os := os) (X := fun w _ => laidMetH Tryd.prog F.laid1 w) false (World.doorLaid Tryd.prog 400 os) #[.agg (C .u64 (Z 4)).toArray, .agg (C .u64 (Z 4)).toArray, .agg (C .u64 (Z 4)).toArray] 8 rfl (World.shaped_of_RefB (by kernel_rfl) (by kernel_rfl)) (by kernel_rfl) (by kernel_rfl) (by kernel_rfl) (F.door_met os _)) ?_
  intro W base args ds gs before hval0 hW _ _ hLd _
  have hval : ∀ (j : Nat) t v, Tryd.f5.params[j]? = some t → args[j]? = some v → Value.okWide Tryd.prog W .any base t v := hval0
  have hW' := hW
  obtain ⟨p, q, hA0, hV, rfl, hfz, hnd⟩ := hW
  have hA : DataW.TrodAll enc Tryd.prog W 0 (fun _ => true) true Tryd.f5.params.toList args.toList ds p := hA0
  rw [Tryd.params5] at hA hval
  obtain ⟨v0, vs0, d0, ds0, p0, q0, hargs, rfl, rfl, h0, r0⟩ := trodAll_cons hA
  obtain ⟨v1, vs1, d1, ds1, p1, q1, rfl, rfl, rfl, h1, r1⟩ := trodAll_cons r0
  obtain ⟨v2, vs2, d2, ds2, p2, q2, rfl, rfl, rfl, h2, r2⟩ := trodAll_cons r1
  obtain ⟨rfl, rfl, rfl⟩ := trodAll_nil r2
  obtain rfl : args = #[v0, v1, v2] := by cases args; simp_all
  obtain ⟨rfl, rfl⟩ := trodVars_none hV
  have k0 := h0
  have lt0 : ∀ x ∈ p0, x.block < W.heap.size := by obtain ⟨m, hm⟩ := k0; exact DataW.trod_lt m _ _ _ hm
  have k1 := h1
  have lt1 : ∀ x ∈ p1, x.block < W.heap.size := by obtain ⟨m, hm⟩ := k1; exact DataW.trod_lt m _ _ _ hm
  have k2 := h2
  have lt2 : ∀ x ∈ p2, x.block < W.heap.size := by obtain ⟨m, hm⟩ := k2; exact DataW.trod_lt m _ _ _ hm
  obtain ⟨z0, rfl, hl0, hz0⟩ := open_array Tryd.underlying24 Tryd.underlying22 (by kernel_rfl) (by kernel_rfl) (hval 0 24 v0 rfl rfl) h0
  obtain ⟨z1, rfl, hl1, hz1⟩ := open_array Tryd.underlying24 Tryd.underlying22 (by kernel_rfl) (by kernel_rfl) (hval 1 24 v1 rfl rfl) h1
  obtain ⟨z2, rfl, hl2, hz2⟩ := open_array Tryd.underlying24 Tryd.underlying22 (by kernel_rfl) (by kernel_rfl) (hval 2 24 v2 rfl rfl) h2
  obtain ⟨n0, b0, e0⟩ := elem_of hl0 hz0
  obtain ⟨n1, b1, e1⟩ := elem_of hl1 hz1
  obtain ⟨n2, b2, e2⟩ := elem_of hl2 hz2
  rw [e0, e1, e2] at hW' ⊢
  rw [e0] at k0
  rw [e1] at k1
  rw [e2] at k2
  clear hA0 hval0
  refine (walk n0 b0 n1 b1 n2 b2 W (F.of_laid hLd)).mono fun e W' ⟨he, bel⟩ => ?_
  subst he
  exact ⟨_, rfl, _, _, _, [], _, [], hW', trodAll_mk1 (shut_bool Tryd.underlying4 _), (trodAll_cons_mk (Below.trod laidOut (by kernel_rfl) (of_decide_eq_true (by kernel_rfl)) k0 bel lt0) (trodAll_cons_mk (Below.trod laidOut (by kernel_rfl) (of_decide_eq_true (by kernel_rfl)) k1 bel lt1) (trodAll_cons_mk (Below.trod laidOut (by kernel_rfl) (of_decide_eq_true (by kernel_rfl)) k2 bel lt2) trodAll_mk0))), rfl, bel.frame _, fun h => by cases h⟩

theorem over : Rows.scalarLawsRow.holds Tryd.pinned (OpenSpec.ofChange Rows.scalarLawsSpec) :=
  OpenClaim.holds_of_wide 5 Tryd.f5 rfl rfl rfl rfl rfl rfl rfl ⟨rfl, rfl, rfl, rfl, rfl⟩ rfl rfl rfl rfl rfl (by kernel_rfl) Tryd.func5 (by kernel_rfl)
    (of_decide_eq_true (by kernel_rfl)) (by unfold Func.isWrapper; first | (rw [if_pos (by decide +kernel)]; kernel_rfl) | (rw [if_neg (by decide +kernel)]; exact ⟨rfl, rfl⟩))
    (fun os started H enc _ => lifted os started H enc)

end Go.Proofs.YtdpahahfcdldcaaDoor.scalarLaws
namespace Go.Proofs.YtdpahahfcdldcaaDoor
/-- The given statement. -/
theorem scalarLaws_proved : Rows.ScalarLawsCardSaid :=
  Claim7.holds_tied_plain_at .later [] [.data] true (true, "12d6fb0e3130be978e13103ef964bff3f25dd06b13ba6b86c892b31fee49d019") false
    scalarLaws.over (fun _ h => by cases h) (by kernel_rfl) (fun _ h => by cases h) scalarLaws_row_tie rfl ⟨rfl, rfl⟩ (by kernel_rfl) rfl
    (fun f fn hf hfn => by
      obtain rfl : f = 5 := Option.some.inj ((show Tryd.prog.funcNamed "affiant/affiantlaw12.ScalarLaws" = some 5 by kernel_rfl).symm.trans hf) |>.symm
      obtain rfl : fn = Tryd.f5 := (Option.some.inj (Tryd.func5.symm.trans hfn)).symm
      exact ⟨by kernel_rfl, fun j t ht => by
        rw [Tryd.params5] at ht
        have hm : t ∈ ([24, 24, 24] : List TypeId) := by simpa using Array.mem_of_getElem? ht
        have hall : (([24, 24, 24] : List TypeId).all fun u => !Tryd.prog.wantsStandIn u) = true := by kernel_rfl
        exact (show Tryd.prog.wantsStandIn t = false by simpa using List.all_eq_true.1 hall t hm)⟩)
    (by kernel_rfl)
end Go.Proofs.YtdpahahfcdldcaaDoor
