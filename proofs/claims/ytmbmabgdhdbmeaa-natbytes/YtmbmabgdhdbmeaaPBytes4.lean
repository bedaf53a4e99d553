/-
  Proved: for every list of words a, every byte slice b and every integer n the law NatBytes returns true, and both read as before. No conditions.
-/
import Derived.Test.YtmbmabgdhdbmeaaRows
import Derived.Test.YtmbmabgdhdbmeaaNatF
import Derived.Test.YtmbmabgdhdbmeaaNatG
import Derived.Test.YtmbmabgdhdbmeaaRefD
import Derived.Test.YtmbmabgdhdbmeaaLawK
import Derived.WalkKit
import Derived.ProofKit
import Derived.OpenShut
import Derived.ShutString
import Derived.ChangeOld
import Derived.Below
import Derived.Deep.Cut
import Derived.Deep.CutRange
import Derived.Deep.DeepCutAuto
namespace Go.Proofs.Ytmbmabgdhdbmeaa.natBytes
open Go.ChangeShapes Go.WideShapes Go.ChangeAt Go.RowKit
open Go.ChangeMaps (open_string shut_string)
set_option linter.unusedVariables false

theorem own : ownKnob Try.prog.godebug = none := by kernel_rfl
theorem laidOut : laidOutB Try.prog = true := by kernel_rfl

theorem str_run8 {w : World} {v : Value} {bs : List Nat} (h : SlV w v (C .u8 bs)) : (convert 24 9 v).run Try.prog w = .ok (.string (strOfNums (bs.map fun (n : Nat) => (n : Int)))) w := by
  refine run_string w 24 9 5 Try.underlying24 Try.underlying5 Try.underlying9 v _ ?_
  have e : U (bs.map fun (n : Nat) => (n : Int)) = C .u8 bs := by simp [U, C]
  rw [e]; exact h
theorem under80 {N n K : Nat} (h : N < 256 ^ n) (hn : n ≤ 300) (hK : 75 ≤ K) : N < W32 ^ K :=
  Nat.lt_of_lt_of_le h (by rw [pow8, pow32]; exact Nat.pow_le_pow_right (by decide) (by omega : 8 * n ≤ 32 * K))
/-- What is to hold behind each operation may become more on the way. -/
theorem wpAnyH_more {P : Program} {ops : Array Oper} {Q : Exit → Act → World → Prop} {md : Region.Mode} {S S' : World → Prop} (hS : ∀ w, S' w → S w) :
    ∀ (fuel : Nat) (listed : Array Bool) (a : Act) (w : World), wpAnyH P md ops Q S' fuel listed a w → wpAnyH P md ops Q S fuel listed a w
  | 0, _, _, _, h => h
  | fuel + 1, _, _, _, h => ⟨h.1, fun i hi => wpOp_mono (fun a' w' h' => ⟨hS w' h'.1, wpAnyH_more hS fuel _ a' w' h'.2⟩) (h.2 i hi)⟩
/-- Fill and the document's Fill: the same bytes and the same error, whatever n. -/
theorem fills (v : Value) (xs : List Nat) (n : Int) (hl : Lo W32 xs) (hm : xs.length ≤ 100000) : ∃ (fb : List Nat) (er : Int),
    (∀ x, SlV x v (C .u32 xs) → Calls Try.prog 12 #[v, .int .i64 n] x fun e w' => ∃ v', e = .returned (.tuple #[v', .int .i64 er]) ∧ SlV w' v' (C .u8 fb) ∧ Below x.heap.size x w') ∧
    (∀ x, SlV x v (C .u32 xs) → Calls Try.prog 13 #[v, .int .i64 n] x fun e w' => ∃ v', e = .returned (.tuple #[v', .int .i64 er]) ∧ SlV w' v' (C .u8 fb) ∧ Below x.heap.size x w') := by
  by_cases hb : n < 0 ∨ 8192 < n
  · refine ⟨[], 1, fun x hx => (fill_bad v n x hb).mono ?_, fun x hx => (refFill_bad v n x hb).mono ?_⟩
    · rintro _ w' ⟨rfl, h⟩; exact ⟨_, rfl, SlV.nil _, h⟩
    · rintro _ w' ⟨rfl, h⟩; exact ⟨_, rfl, SlV.nil _, h⟩
  · obtain ⟨m, rfl⟩ : ∃ m : Nat, n = m := ⟨n.toNat, by omega⟩
    have hm2 : m ≤ 8192 := by omega
    by_cases hs : (bl (val W32 xs) + 7) / 8 ≤ m
    · exact ⟨_, _, fun x hx => fill_ok v xs m x hx hl hm hm2 hs, fun x hx => refFill_ok v xs m x hx hl hm hm2 hs⟩
    · refine ⟨[], 1, fun x hx => (fill_small v xs m x hx hl hm hm2 (by omega)).mono ?_, fun x hx => (refFill_small v xs m x hx hl hm hm2 (by omega)).mono ?_⟩
      · rintro _ w' ⟨rfl, h⟩; exact ⟨_, rfl, SlV.nil _, h⟩
      · rintro _ w' ⟨rfl, h⟩; exact ⟨_, rfl, SlV.nil _, h⟩
set_option maxHeartbeats 8000000 in
/-- The walk: the law returns true and writes nothing that was there. -/
theorem walk (a0 : Option Addr) (len0 cap0 : Nat) (z0 : List Int) (a1 : Option Addr) (len1 cap1 : Nat) (z1 : List Int) (a2 : Int) (w : World) (w0 : IsRow .u32 w a0 len0 cap0 z0) (w1 : IsRow .u8 w a1 len1 cap1 z1) (w2 : (Lit.int .i64 a2).wf = true) :
    Calls Try.prog 3 #[.slice a0 len0 cap0, .slice a1 len1 cap1, .int .i64 a2] w fun e w' => e = .returned (.bool true) ∧ Below w.heap.size w w' := by
  clear w2
  obtain ⟨xs0, hs0, hl0, hn0⟩ := open32 w0
  have hm0 : len0 ≤ maxLen := by have := hs0.len; rwa [C_length, hn0] at this
  have hi0 : (len0 : Int) ≤ 9223372036854775807 := by unfold maxLen at hm0; omega
  obtain ⟨xs1, hs1, hl1, hn1⟩ := open8 w1
  have hm1 : len1 ≤ maxLen := by have := hs1.len; rwa [C_length, hn1] at this
  have hi1 : (len1 : Int) ≤ 9223372036854775807 := by unfold maxLen at hm1; omega
  clear w0 w1
  by_cases h0 : 80 < (len0 : Int)
  · go_enter Try.func3, Try.ntmps3
    go_wp2_with (go_at_call 11; refine (alive_true _).mono ?_; rintro e w' ⟨rfl, hb⟩)
    go_ret
    exact ⟨rfl, hb⟩
  by_cases h1 : 300 < (len1 : Int)
  · go_enter Try.func3, Try.ntmps3
    go_wp2_with (go_at_call 11; refine (alive_true _).mono ?_; rintro e w' ⟨rfl, hb⟩)
    go_ret
    exact ⟨rfl, hb⟩
  have k0 : xs0.length ≤ 80 := by omega
  have k1 : xs1.length ≤ 300 := by omega
  obtain ⟨fb, er, hf1, hf2⟩ := fills (.slice a0 len0 cap0) xs0 a2 hl0 (by omega)
  have HF1 := Away.mk hf1; have HF2 := Away.mk hf2
  have HL0 := Away.mk hl0; have HL1 := Away.mk hl1
  have hA : Below w.heap.size w (w.alloc (.cells #[] 5)) := (Below.refl _ _).alloc (Nat.le_refl _) _
  have hsA := hs1.below hA
  have hoA := own_empty w w.heap.size 5 (Nat.le_refl _)
  have hRD : val 256 xs1.reverse < W32 ^ 80 := by
    have h := val_lt (B := 256) (by decide) hl1.reverse
    rw [List.length_reverse] at h
    refine under80 h k1 (by decide)
  have HRL := Away.mk hRD
  clear hl0 hl1 hm0 hm1 hf1 hf2 hRD
  go_enter Try.func3, Try.ntmps3
  go_wp2_with (at_builtin; refine wpList_append_sl rfl (.tmp 21) (.tmp 22) 24 rfl w.heap.size 5 (.int .u8 0) 1 Try.underlying24 Try.info5 rfl _ 0 [] rfl hoA _ (C .u8 xs1) rfl hsA (C_one _ _) (by rw [C_length]; unfold maxLen; omega) (by rw [C_length]; omega) hA.size ?_)
  intro v7 y1 hown hg1
  have hb1 : Below w.heap.size w y1 := hA.grown hg1 hA.size (fun k hk => (hoA.lt k hk).1)
  have H7 := Away.mk (SlV.ofOwn hown)
  have H0 := Away.mk (hs0.below hb1); have H1 := Away.mk (hs1.below hb1)
  have HB := Away.mk hb1
  clear hown hg1 hb1 hoA hsA hA hs0 hs1
  go_wp2_with fail
  refine (HF1.out _ H0.out).mono ?_
  rintro _ y2 ⟨v8, rfl, h8, hb⟩
  have H8 := Away.mk h8
  replace H0 := Away.mk (H0.out.below hb)
  replace H1 := Away.mk (H1.out.below hb)
  replace H7 := Away.mk (H7.out.below hb)
  replace HB := Away.mk (HB.out.trans (hb.mono HB.out.size))
  clear h8 hb
  go_wp2_with fail
  refine (HF2.out _ H0.out).mono ?_
  rintro _ y3 ⟨v10, rfl, h10, hb⟩
  replace H0 := Away.mk (H0.out.below hb)
  replace H1 := Away.mk (H1.out.below hb)
  replace H7 := Away.mk (H7.out.below hb)
  replace H8 := Away.mk (H8.out.below hb)
  replace HB := Away.mk (HB.out.trans (hb.mono HB.out.size))
  have H10 := Away.mk h10
  clear h10 hb
  have hB := HB.out.drew
  have hb : Below y3.heap.size y3 y3.drew := (Below.refl _ _).drew
  replace H0 := Away.mk (H0.out.below hb)
  replace H1 := Away.mk (H1.out.below hb)
  replace H7 := Away.mk (H7.out.below hb)
  replace H8 := Away.mk (H8.out.below hb)
  replace H10 := Away.mk (H10.out.below hb)
  clear hb
  go_wp2_with fail
  refine wp_region_noPanic ?_
  refine wp_region_held_drew (S := fun w' => Below w.heap.size w w' ∧ (convert 24 9 v7).run Try.prog w' = .ok (.string (strOfNums (xs1.map fun (n : Nat) => (n : Int)))) w' ∧ (convert 24 9 (.slice a1 len1 cap1)).run Try.prog w' = .ok (.string (strOfNums (xs1.map fun (n : Nat) => (n : Int)))) w' ∧ (convert 24 9 v8).run Try.prog w' = .ok (.string (strOfNums (fb.map fun (n : Nat) => (n : Int)))) w' ∧ (convert 24 9 v10).run Try.prog w' = .ok (.string (strOfNums (fb.map fun (n : Nat) => (n : Int)))) w') (by kernel_rfl) (⟨hB, str_run8 H7.out, str_run8 H1.out, str_run8 H8.out, str_run8 H10.out⟩) (fun hHeld => ?_)
  refine allReadyH_oneL (i := 0) (by kernel_rfl) rfl (by rfl) (fun K hK => ?_)
  go_simp
  have hcz0 := hB
  refine (alive_true _).mono ?_
  rintro _ z1 ⟨rfl, hb⟩
  have hcz1 : Below w.heap.size w z1 := hcz0.trans (hb.mono hcz0.size)
  replace H0 := Away.mk (H0.out.below hb)
  replace H1 := Away.mk (H1.out.below hb)
  replace H7 := Away.mk (H7.out.below hb)
  replace H8 := Away.mk (H8.out.below hb)
  replace H10 := Away.mk (H10.out.below hb)
  clear hb
  refine hK.out _ _ (⟨hcz1, str_run8 H7.out, str_run8 H1.out, str_run8 H8.out, str_run8 H10.out⟩) (fun hHeld => ?_)
  clear hK K
  refine wpAnyH_takeL (i := 1) (v := ?v1) rfl (by kernel_rfl) (by kernel_rfl) (by kernel_rfl) (fun _ _ _ h => h) (by rfl) ?h1 (by assumption) ?_
  case h1 => intro w hSw; go_simp <;> with_reducible rfl
  simp only [Act.put, List.setIfInBounds_toArray, List.set_cons_zero, List.set_cons_succ]
  refine wpAnyH_takeL (i := 2) (v := ?v2) rfl (by kernel_rfl) (by kernel_rfl) (by kernel_rfl) (fun _ _ _ h => h) (by rfl) ?h2 (by assumption) ?_
  case h2 => intro w hSw; go_simp <;> with_reducible rfl
  simp only [Act.put, List.setIfInBounds_toArray, List.set_cons_zero, List.set_cons_succ]
  refine wpAnyH_takeL (i := 4) (v := ?v4) rfl (by kernel_rfl) (by kernel_rfl) (by kernel_rfl) (fun _ _ _ h => h) (by rfl) ?h4 (by assumption) ?_
  case h4 => intro w hSw; go_simp <;> with_reducible rfl
  simp only [Act.put, List.setIfInBounds_toArray, List.set_cons_zero, List.set_cons_succ]
  refine allReadyH_oneL (i := 3) (by kernel_rfl) rfl (by rfl) (fun K hK => ?_)
  go_simp
  refine (read_any _ xs1 _ H7.out HL1.out (by omega)).mono ?_
  rintro _ z2 ⟨v39, rfl, h39, hb⟩
  have H39 := Away.mk h39.ra
  have hcz2 : Below w.heap.size w z2 := hcz1.trans (hb.mono hcz1.size)
  replace H0 := Away.mk (H0.out.below hb)
  replace H1 := Away.mk (H1.out.below hb)
  replace H7 := Away.mk (H7.out.below hb)
  replace H8 := Away.mk (H8.out.below hb)
  replace H10 := Away.mk (H10.out.below hb)
  clear hb h39
  refine hK.out _ _ (⟨hcz2, str_run8 H7.out, str_run8 H1.out, str_run8 H8.out, str_run8 H10.out⟩) (fun hHeld => ?_)
  clear hK K
  refine allReadyH_oneL (i := 5) (by kernel_rfl) rfl (by rfl) (fun K hK => ?_)
  go_simp
  refine (refread_any _ xs1 _ H1.out HL1.out (by omega)).mono ?_
  rintro _ z3 ⟨v41, rfl, h41, hb⟩
  have hcz3 : Below w.heap.size w z3 := hcz2.trans (hb.mono hcz2.size)
  replace H0 := Away.mk (H0.out.below hb)
  replace H1 := Away.mk (H1.out.below hb)
  replace H7 := Away.mk (H7.out.below hb)
  replace H8 := Away.mk (H8.out.below hb)
  replace H10 := Away.mk (H10.out.below hb)
  replace H39 := Away.mk (H39.out.below hb)
  have H41 := Away.mk h41
  clear hb h41
  refine hK.out _ _ (⟨hcz3, str_run8 H7.out, str_run8 H1.out, str_run8 H8.out, str_run8 H10.out⟩) (fun hHeld => ?_)
  clear hK K
  refine allReadyH_oneL (i := 6) (by kernel_rfl) rfl (by rfl) (fun K hK => ?_)
  go_simp
  refine (same_rb _ _ _ 80 _ H39.out H41.out (by decide) HRL.out).mono ?_
  rintro _ z4 ⟨rfl, hb⟩
  have hcz4 : Below w.heap.size w z4 := hcz3.trans (hb.mono hcz3.size)
  replace H0 := Away.mk (H0.out.below hb)
  replace H1 := Away.mk (H1.out.below hb)
  replace H7 := Away.mk (H7.out.below hb)
  replace H8 := Away.mk (H8.out.below hb)
  replace H10 := Away.mk (H10.out.below hb)
  clear hb H39 H41
  refine hK.out _ _ (⟨hcz4, str_run8 H7.out, str_run8 H1.out, str_run8 H8.out, str_run8 H10.out⟩) (fun hHeld => ?_)
  clear hK K
  refine wpAnyH_takeL (i := 7) (v := ?v7) rfl (by kernel_rfl) (by kernel_rfl) (by kernel_rfl) (fun _ _ _ h => h) (by rfl) ?h7 (by assumption) ?_
  case h7 => intro w hSw; go_simp <;> with_reducible rfl
  simp only [Act.put, List.setIfInBounds_toArray, List.set_cons_zero, List.set_cons_succ]
  refine wpAnyH_takeL (i := 8) (v := ?v8) rfl (by kernel_rfl) (by kernel_rfl) (by kernel_rfl) (fun _ _ _ h => h) (by rfl) ?h8 (by assumption) ?_
  case h8 => intro w hSw; go_simp <;> with_reducible rfl
  simp only [Act.put, List.setIfInBounds_toArray, List.set_cons_zero, List.set_cons_succ]
  refine wpAnyH_takeL (i := 9) (v := ?v9) rfl (by kernel_rfl) (by kernel_rfl) (by kernel_rfl) (fun _ _ _ h => h) (by rfl) ?h9 (by assumption) ?_
  case h9 => intro w hSw; go_simp <;> with_reducible rfl
  simp only [Act.put, List.setIfInBounds_toArray, List.set_cons_zero, List.set_cons_succ]
  refine wpAnyH_takeL (i := 12) (v := ?v12) rfl (by kernel_rfl) (by kernel_rfl) (by kernel_rfl) (fun _ _ _ h => h) (by rfl) ?h12 (by assumption) ?_
  case h12 => intro w hSw; go_simp <;> with_reducible rfl
  simp only [Act.put, List.setIfInBounds_toArray, List.set_cons_zero, List.set_cons_succ]
  refine allReadyH_oneL (i := 10) (by kernel_rfl) rfl (by rfl) (fun K hK => ?_)
  go_simp
  refine (bytes_any _ xs0 _ H0.out HL0.out (by omega)).mono ?_
  rintro _ z5 ⟨v46, rfl, h46, hb⟩
  have hcz5 : Below w.heap.size w z5 := hcz4.trans (hb.mono hcz4.size)
  replace H0 := Away.mk (H0.out.below hb)
  replace H1 := Away.mk (H1.out.below hb)
  replace H7 := Away.mk (H7.out.below hb)
  replace H8 := Away.mk (H8.out.below hb)
  replace H10 := Away.mk (H10.out.below hb)
  have H46 := Away.mk h46
  clear hb h46
  refine hK.out _ _ (⟨hcz5, str_run8 H7.out, str_run8 H1.out, str_run8 H8.out, str_run8 H10.out⟩) (fun hHeld => ?_)
  clear hK K
  refine wpAnyH_more (S' := fun w' => (Below w.heap.size w w' ∧ (convert 24 9 v7).run Try.prog w' = .ok (.string (strOfNums (xs1.map fun (n : Nat) => (n : Int)))) w' ∧ (convert 24 9 (.slice a1 len1 cap1)).run Try.prog w' = .ok (.string (strOfNums (xs1.map fun (n : Nat) => (n : Int)))) w' ∧ (convert 24 9 v8).run Try.prog w' = .ok (.string (strOfNums (fb.map fun (n : Nat) => (n : Int)))) w' ∧ (convert 24 9 v10).run Try.prog w' = .ok (.string (strOfNums (fb.map fun (n : Nat) => (n : Int)))) w') ∧ (convert 24 9 v46).run Try.prog w' = .ok (.string (strOfNums ((be (val W32 xs0) ((bl (val W32 xs0) + 7) / 8)).map fun (n : Nat) => (n : Int)))) w') (fun _ h => h.1) _ _ _ _ ?_
  have hHeld2 := And.intro hHeld (str_run8 H46.out)
  refine wpAnyH_takeL (i := 11) (v := ?v11) rfl (by kernel_rfl) (by kernel_rfl) (by kernel_rfl) (fun _ _ _ h => h) (by rfl) ?h11 (by assumption) ?_
  case h11 => intro w hSw; go_simp <;> with_reducible rfl
  simp only [Act.put, List.setIfInBounds_toArray, List.set_cons_zero, List.set_cons_succ]
  refine allReadyH_oneL (i := 13) (by kernel_rfl) rfl (by rfl) (fun K hK => ?_)
  go_simp
  refine (refbytes_any _ xs0 _ H0.out HL0.out (by omega)).mono ?_
  rintro _ z6 ⟨v49, rfl, h49, hb⟩
  have hcz6 : Below w.heap.size w z6 := hcz5.trans (hb.mono hcz5.size)
  replace H0 := Away.mk (H0.out.below hb)
  replace H1 := Away.mk (H1.out.below hb)
  replace H7 := Away.mk (H7.out.below hb)
  replace H8 := Away.mk (H8.out.below hb)
  replace H10 := Away.mk (H10.out.below hb)
  replace H46 := Away.mk (H46.out.below hb)
  have cv49 := str_run8 h49
  clear hb h49
  refine hK.out _ _ (⟨⟨hcz6, str_run8 H7.out, str_run8 H1.out, str_run8 H8.out, str_run8 H10.out⟩, str_run8 H46.out⟩) (fun hHeld => ?_)
  clear hK K
  refine allReadyH_oneL (i := 14) (by kernel_rfl) rfl (by rfl) (fun K hK => ?_)
  go_simp
  skip
  refine hK.out _ _ (⟨⟨hcz6, str_run8 H7.out, str_run8 H1.out, str_run8 H8.out, str_run8 H10.out⟩, str_run8 H46.out⟩) (fun hHeld => ?_)
  clear hK K
  refine wpAnyH_takeL (i := 15) (v := ?v15) rfl (by kernel_rfl) (by kernel_rfl) (by kernel_rfl) (fun _ _ _ h => h) (by rfl) ?h15 (by assumption) ?_
  case h15 => intro w hSw; go_simp <;> with_reducible rfl
  simp only [Act.put, List.setIfInBounds_toArray, List.set_cons_zero, List.set_cons_succ]
  refine wpAnyH_takeL (i := 16) (v := ?v16) rfl (by kernel_rfl) (by kernel_rfl) (by kernel_rfl) (fun _ _ _ h => h) (by rfl) ?h16 (by assumption) ?_
  case h16 => intro w hSw; go_simp <;> with_reducible rfl
  simp only [Act.put, List.setIfInBounds_toArray, List.set_cons_zero, List.set_cons_succ]
  refine wpAnyH_takeL (i := 17) (v := ?v17) rfl (by kernel_rfl) (by kernel_rfl) (by kernel_rfl) (fun _ _ _ h => h) (by rfl) ?h17 (by assumption) ?_
  case h17 => intro w hSw; go_simp <;> with_reducible rfl
  simp only [Act.put, List.setIfInBounds_toArray, List.set_cons_zero, List.set_cons_succ]
  refine wpAnyH_takeL (i := 18) (v := ?v18) rfl (by kernel_rfl) (by kernel_rfl) (by kernel_rfl) (fun _ _ _ h => h) (by rfl) ?h18 (by assumption) ?_
  case h18 => intro w hSw; go_simp <;> with_reducible rfl
  simp only [Act.put, List.setIfInBounds_toArray, List.set_cons_zero, List.set_cons_succ]
  refine wpAnyH_takeL (i := 19) (v := ?v19) rfl (by kernel_rfl) (by kernel_rfl) (by kernel_rfl) (fun _ _ _ h => h) (by rfl) ?h19 (by assumption) ?_
  case h19 => intro w hSw; go_simp <;> with_reducible rfl
  simp only [Act.put, List.setIfInBounds_toArray, List.set_cons_zero, List.set_cons_succ]
  refine wpAnyH_takeL (i := 20) (v := ?v20) rfl (by kernel_rfl) (by kernel_rfl) (by kernel_rfl) (fun _ _ _ h => h) (by rfl) ?h20 (by assumption) ?_
  case h20 => intro w hSw; go_simp <;> with_reducible rfl
  simp only [Act.put, List.setIfInBounds_toArray, List.set_cons_zero, List.set_cons_succ]
  refine wpAnyH_takeL (i := 21) (v := ?v21) rfl (by kernel_rfl) (by kernel_rfl) (by kernel_rfl) (fun _ _ _ h => h) (by rfl) ?h21 (by assumption) ?_
  case h21 => intro w hSw; go_simp <;> with_reducible rfl
  simp only [Act.put, List.setIfInBounds_toArray, List.set_cons_zero, List.set_cons_succ]
  refine wpAnyH_takeL (i := 22) (v := ?v22) rfl (by kernel_rfl) (by kernel_rfl) (by kernel_rfl) (fun _ _ _ h => h) (by rfl) ?h22 (by assumption) ?_
  case h22 => intro w hSw; go_simp <;> with_reducible rfl
  simp only [Act.put, List.setIfInBounds_toArray, List.set_cons_zero, List.set_cons_succ]
  refine wpAnyH_takeL (i := 23) (v := ?v23) rfl (by kernel_rfl) (by kernel_rfl) (by kernel_rfl) (fun _ _ _ h => h) (by rfl) ?h23 (by assumption) ?_
  case h23 => intro w hSw; go_simp <;> with_reducible rfl
  simp only [Act.put, List.setIfInBounds_toArray, List.set_cons_zero, List.set_cons_succ]
  refine wpAnyH_takeL (i := 24) (v := ?v24) rfl (by kernel_rfl) (by kernel_rfl) (by kernel_rfl) (fun _ _ _ h => h) (by rfl) ?h24 (by assumption) ?_
  case h24 => intro w hSw; go_simp <;> with_reducible rfl
  simp only [Act.put, List.setIfInBounds_toArray, List.set_cons_zero, List.set_cons_succ]
  refine wpAnyH_takeL (i := 25) (v := ?v25) rfl (by kernel_rfl) (by kernel_rfl) (by kernel_rfl) (fun _ _ _ h => h) (by rfl) ?h25 (by assumption) ?_
  case h25 => intro w hSw; go_simp <;> with_reducible rfl
  simp only [Act.put, List.setIfInBounds_toArray, List.set_cons_zero, List.set_cons_succ]
  refine wpAnyH_takeL (i := 26) (v := ?v26) rfl (by kernel_rfl) (by kernel_rfl) (by kernel_rfl) (fun _ _ _ h => h) (by rfl) ?h26 (by assumption) ?_
  case h26 => intro w hSw; go_simp <;> with_reducible rfl
  simp only [Act.put, List.setIfInBounds_toArray, List.set_cons_zero, List.set_cons_succ]
  refine wpAnyH_takeL (i := 27) (v := ?v27) rfl (by kernel_rfl) (by kernel_rfl) (by kernel_rfl) (fun _ _ _ h => h) (by rfl) ?h27 (by assumption) ?_
  case h27 => intro w hSw; go_simp <;> with_reducible rfl
  simp only [Act.put, List.setIfInBounds_toArray, List.set_cons_zero, List.set_cons_succ]
  refine wpAnyH_takeL (i := 28) (v := ?v28) rfl (by kernel_rfl) (by kernel_rfl) (by kernel_rfl) (fun _ _ _ h => h) (by rfl) ?h28 (by assumption) ?_
  case h28 => intro w hSw; go_simp <;> with_reducible rfl
  simp only [Act.put, List.setIfInBounds_toArray, List.set_cons_zero, List.set_cons_succ]
  refine wpAnyH_takeL (i := 29) (v := ?v29) rfl (by kernel_rfl) (by kernel_rfl) (by kernel_rfl) (fun _ _ _ h => h) (by rfl) ?h29 (by assumption) ?_
  case h29 => intro w hSw; go_simp <;> with_reducible rfl
  simp only [Act.put, List.setIfInBounds_toArray, List.set_cons_zero, List.set_cons_succ]
  refine wpAnyH_takeL (i := 30) (v := ?v30) rfl (by kernel_rfl) (by kernel_rfl) (by kernel_rfl) (fun _ _ _ h => h) (by rfl) ?h30 (by assumption) ?_
  case h30 => intro w hSw; go_simp <;> with_reducible rfl
  simp only [Act.put, List.setIfInBounds_toArray, List.set_cons_zero, List.set_cons_succ]
  refine wpAnyH_takeL (i := 32) (v := ?v32) rfl (by kernel_rfl) (by kernel_rfl) (by kernel_rfl) (fun _ _ _ h => h) (by rfl) ?h32 (by assumption) ?_
  case h32 => intro w hSw; go_simp <;> with_reducible rfl
  simp only [Act.put, List.setIfInBounds_toArray, List.set_cons_zero, List.set_cons_succ]
  refine wpAnyH_takeL (i := 31) (v := ?v31) rfl (by kernel_rfl) (by kernel_rfl) (by kernel_rfl) (fun _ _ _ h => h) (by rfl) ?h31 (by assumption) ?_
  case h31 => intro w hSw; go_simp <;> with_reducible rfl
  simp only [Act.put, List.setIfInBounds_toArray, List.set_cons_zero, List.set_cons_succ]
  refine wpAnyH_takeL (i := 33) (v := ?v33) rfl (by kernel_rfl) (by kernel_rfl) (by kernel_rfl) (fun _ _ _ h => h) (by rfl) ?h33 (by assumption) ?_
  case h33 => intro w hSw; go_simp <;> with_reducible rfl
  simp only [Act.put, List.setIfInBounds_toArray, List.set_cons_zero, List.set_cons_succ]
  refine wpAnyH_takeL (i := 34) (v := ?v34) rfl (by kernel_rfl) (by kernel_rfl) (by kernel_rfl) (fun _ _ _ h => h) (by rfl) ?h34 (by assumption) ?_
  case h34 => intro w hSw; go_simp <;> with_reducible rfl
  simp only [Act.put, List.setIfInBounds_toArray, List.set_cons_zero, List.set_cons_succ]
  refine wpAnyH_takeL (i := 35) (v := ?v35) rfl (by kernel_rfl) (by kernel_rfl) (by kernel_rfl) (fun _ _ _ h => h) (by rfl) ?h35 (by assumption) ?_
  case h35 => intro w hSw; go_simp <;> with_reducible rfl
  simp only [Act.put, List.setIfInBounds_toArray, List.set_cons_zero, List.set_cons_succ]
  refine wpAnyH_takeL (i := 36) (v := ?v36) rfl (by kernel_rfl) (by kernel_rfl) (by kernel_rfl) (fun _ _ _ h => h) (by rfl) ?h36 (by assumption) ?_
  case h36 => intro w hSw; go_simp <;> with_reducible rfl
  simp only [Act.put, List.setIfInBounds_toArray, List.set_cons_zero, List.set_cons_succ]
  refine wpAnyH_done (by kernel_rfl) ?_ _
  refine NoPanic.normal ?_
  go_wp2
  go_ret
  exact ⟨rfl, hcz6⟩

set_option maxRecDepth 100000 in
theorem lifted (os : Os) (started : os.Started) (H : Type) (enc : TypeId × Value → H) :
    ReturnsInHanded {} Try.checked os 3 .any (Rows.natBytesSpec.pre6 enc Try.prog Try.f3 Rows.natBytesRow.domain false) (Rows.natBytesSpec.post enc Try.prog Try.f3 false true false false) := by
  refine returnsInHanded_of_change (C := Try.checked) own started (by kernel_rfl) Try.func3
    (ChangeSpec.witness6 (enc := enc) (C := Try.checked) false ⟨#[], #[.slice none 0 0, .slice none 0 0, .int .i64 0], []⟩ 8 (by kernel_rfl) (by kernel_rfl) (by kernel_rfl) (by kernel_rfl)) ?_
  intro W base args ds gs before hval0 hW hcnd _
  have hval : ∀ (j : Nat) t v, Try.f3.params[j]? = some t → args[j]? = some v → Value.okWide Try.prog W .any base t v := hval0
  have hW' := hW
  obtain ⟨p, q, hA0, hV, rfl, hfz, hnd⟩ := hW
  have hA : DataW.TrodAll enc Try.prog W 0 (fun _ => true) true Try.f3.params.toList args.toList ds p := hA0
  rw [Try.params3] at hA hval
  obtain ⟨v0, vs0, d0, ds0, p0, q0, hargs, rfl, rfl, h0, r0⟩ := trodAll_cons hA
  obtain ⟨v1, vs1, d1, ds1, p1, q1, rfl, rfl, rfl, h1, r1⟩ := trodAll_cons r0
  obtain ⟨v2, vs2, d2, ds2, p2, q2, rfl, rfl, rfl, h2, r2⟩ := trodAll_cons r1
  obtain ⟨rfl, rfl, rfl⟩ := trodAll_nil r2
  obtain rfl : args = #[v0, v1, v2] := by cases args; simp_all
  obtain ⟨rfl, rfl⟩ := trodVars_none hV
  obtain ⟨a0, len0, cap0, rfl⟩ := okWide_slice Try.underlying23 (hval 0 23 v0 rfl rfl)
  have k0 := h0
  have lt0 : ∀ x ∈ p0, x.block < W.heap.size := by obtain ⟨m, hm⟩ := k0; exact DataW.trod_lt m _ _ _ hm
  obtain ⟨z0, w0⟩ : ∃ zs, IsRow .u32 W a0 len0 cap0 zs := by
    obtain ⟨fuel, hf⟩ := h0
    rcases open_ints Try.underlying23 Try.underlying47 (by kernel_rfl) hf with ⟨hcs, _⟩ | ⟨x, l, c, zs, hcs, _, hl, hm, hz, _, hcell, hwz⟩
    · simp [Value.cells] at hcs
      obtain ⟨rfl, rfl, rfl⟩ := hcs
      exact ⟨[], .inl ⟨rfl, rfl, rfl, rfl⟩⟩
    · simp [Value.cells] at hcs
      obtain ⟨rfl, rfl, rfl⟩ := hcs
      exact ⟨zs, .inr ⟨_, rfl, hl, hm, by simpa using hz, hcell, hwz⟩⟩
  obtain ⟨a1, len1, cap1, rfl⟩ := okWide_slice Try.underlying24 (hval 1 24 v1 rfl rfl)
  have k1 := h1
  have lt1 : ∀ x ∈ p1, x.block < W.heap.size := by obtain ⟨m, hm⟩ := k1; exact DataW.trod_lt m _ _ _ hm
  obtain ⟨z1, w1⟩ : ∃ zs, IsRow .u8 W a1 len1 cap1 zs := by
    obtain ⟨fuel, hf⟩ := h1
    rcases open_ints Try.underlying24 Try.underlying5 (by kernel_rfl) hf with ⟨hcs, _⟩ | ⟨x, l, c, zs, hcs, _, hl, hm, hz, _, hcell, hwz⟩
    · simp [Value.cells] at hcs
      obtain ⟨rfl, rfl, rfl⟩ := hcs
      exact ⟨[], .inl ⟨rfl, rfl, rfl, rfl⟩⟩
    · simp [Value.cells] at hcs
      obtain ⟨rfl, rfl, rfl⟩ := hcs
      exact ⟨zs, .inr ⟨_, rfl, hl, hm, by simpa using hz, hcell, hwz⟩⟩
  obtain ⟨a2, rfl, rfl, rfl, w2⟩ := open_int Try.underlying3 (hval 2 3 v2 rfl rfl) h2
  clear hA0 hval0
  refine (walk a0 len0 cap0 z0 a1 len1 cap1 z1 a2 W w0 w1 w2).mono fun e W' ⟨he, bel⟩ => ?_
  subst he
  exact ⟨_, rfl, _, _, _, [], _, [], hW', trodAll_mk1 (shut_bool Try.underlying4 _), (trodAll_cons_mk (Below.trod laidOut (by kernel_rfl) (of_decide_eq_true (by kernel_rfl)) k0 bel lt0) (trodAll_cons_mk (Below.trod laidOut (by kernel_rfl) (of_decide_eq_true (by kernel_rfl)) k1 bel lt1) (trodAll_cons_mk (shut_int Try.underlying3 w2) trodAll_mk0))), rfl, bel.frame _, fun h => by cases h⟩

theorem over : Rows.natBytesRow.holds Try.pinned (OpenSpec.ofChange Rows.natBytesSpec) :=
  OpenClaim.holds_of_wide 3 Try.f3 rfl rfl rfl rfl rfl rfl rfl ⟨rfl, rfl, rfl, rfl, rfl⟩ rfl rfl rfl rfl rfl (by kernel_rfl) Try.func3 (by kernel_rfl)
    (of_decide_eq_true (by kernel_rfl)) (by unfold Func.isWrapper; first | (rw [if_pos (by decide +kernel)]; kernel_rfl) | (rw [if_neg (by decide +kernel)]; exact ⟨rfl, rfl⟩))
    (fun os started H enc _ => lifted os started H enc)

end Go.Proofs.Ytmbmabgdhdbmeaa.natBytes
namespace Go.Proofs.Ytmbmabgdhdbmeaa
/-- The given statement. -/
theorem natBytes_proved : Rows.NatBytesSaid := natBytes.over
end Go.Proofs.Ytmbmabgdhdbmeaa
