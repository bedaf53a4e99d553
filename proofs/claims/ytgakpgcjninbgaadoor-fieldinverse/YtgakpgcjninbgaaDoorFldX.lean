/-
  Contracts of Read, the program's and the document's, over this seat's translation. Conditions: each as it says; the package's variables hold what their initialisers lay.
-/
import Derived.Test.YtgakpgcjninbgaaDoorFldT
namespace Go.Proofs.YtgakpgcjninbgaaDoor.F
open Go.RowKit
set_option linter.unusedVariables false
set_option maxRecDepth 10000

theorem refless_NP (N : Nat) (hN : N < 115792089237316195423570985008687907853269984665640564039457584007913129639936) (w : World) : Calls Tryd.prog 43 #[.agg (C .u64 (wds N)).toArray, .agg (C .u64 (wds P)).toArray] w fun e w' => e = .returned (.tuple #[.agg (C .u64 (wds ((N + 115792089237316195423570985008687907853269984665640564039457584007913129639936 - P) % 115792089237316195423570985008687907853269984665640564039457584007913129639936))).toArray, .bool (decide (N < P))]) ∧ Below w.heap.size w w' := refless_any N P hN P_lt w
theorem val_bytes_lt {b : List Nat} (hb : Lo 256 b) (hl : b.length = 32) : val 256 b < 115792089237316195423570985008687907853269984665640564039457584007913129639936 := by
  have := val_lt (B := 256) (by decide) hb
  rw [hl, B256_pow] at this
  exact this

set_option maxHeartbeats 4000000 in
theorem fread_any (b : List Nat) (hb : Lo 256 b) (hl : b.length = 32) (w : World) (hT : Tab w) : Calls Tryd.prog 26 #[.agg (C .u8 b).toArray] w fun e w' => e = .returned (.tuple #[el (if val 256 b < P then val 256 b else 0), .bool (decide (val 256 b < P))]) ∧ Below w.heap.size w w' := by
  obtain ⟨w2, h2, r1, r2, q4, hL, hS⟩ := rows3 w 32 24 24 (C .u8 b) (C .u64 (Z 4)) (C .u64 (Z 4))
  have hib : (Tryd.prog.info? 32).map (·.size) = some (C .u8 b).length := by rw [C_length, hl]; exact i32
  have hbi := Away.mk (fun w k h => run_index_C (P := Tryd.prog) w (q := .u8) Tryd.underlying32 (by kernel_rfl) i1b b k h hl)
  have hNl := val_bytes_lt hb hl
  obtain ⟨N, hN⟩ : ∃ N, val 256 b = N := ⟨_, rfl⟩
  rw [hN] at hNl ⊢
  have HN := Away.mk hN
  clear hN
  obtain ⟨D, hD⟩ : ∃ D, (if N < P then N else 0) = D := ⟨_, rfl⟩
  rw [hD]
  have HD := Away.mk hD
  clear hD
  obtain ⟨ov, hov⟩ : ∃ ov, decide (N < P) = ov := ⟨_, rfl⟩
  rw [hov]
  have HO := Away.mk hov
  clear hov
  unfold el
  go_enter Tryd.func26, Tryd.ntmps26
  go_upto_region 2 with (refine wpList_alloc_row rfl 24 rfl _ z4 ?_)
  try simp only [Act.put, List.setIfInBounds_toArray, List.set_cons_zero, List.set_cons_succ, alloc_size, h2]
  clear h2
  go_wp2_with (refine wpList_load_row rfl 32 _ rfl _ rfl _ _ _ _ r1 Tryd.underlying32 rfl hib ?_)
  clear r1
  rw [show Z 4 = wds (val 256 (b.take 0)) by rw [List.take_zero]; rfl] at q4
  go_loopw [8] (fun i wr => ∃ k : Nat, k ≤ 32 ∧ i = .int .i64 k ∧ Row wr (w.heap.size + 1) 24 (C .u64 (Z 4)) ∧ Row wr (w.heap.size + 1 + 1) 24 (C .u64 (wds (val 256 (b.take k)))) ∧ Below w.heap.size w wr) (fun i _ => 32 - (intOf i).toNat)
  case atStart => exact ⟨0, Nat.zero_le _, rfl, r2, q4, hL⟩
  case round =>
    clear r2 q4 hL
    obtain ⟨k, hk, rfl, r2, q4, hL⟩ := hrel
    by_cases hlt : k < 32
    · have hix := fun w => hbi.out w k hlt
      have bx := hb.getD (by decide) k
      have hv := val_take_lt (B := 256) (by decide) hb k
      obtain ⟨hs1, hs2, hs3⟩ := word_set hlt hv bx
      rw [← val_take_succ] at hs1
      have lV := wds_length (val 256 (b.take k))
      have hwlo := (wds_lo (val 256 (b.take k))).getD (by decide) (k / 8)
      generalize wds (val 256 (b.take k)) = V at *
      have c4 := q4.cell (k / 8)
      rw [C_get .u64 (by omega)] at c4
      have hf := q4.frozen (k / 8)
      obtain ⟨q, hq⟩ : ∃ q, k / 8 = q := ⟨_, rfl⟩
      obtain ⟨r, hr⟩ : ∃ r, k % 8 = r := ⟨_, rfl⟩
      rw [hq] at c4 hs1 hs2 hf hwlo
      rw [hr] at hs1 hs2
      obtain ⟨s, hs⟩ : ∃ s, 8 * r = s := ⟨_, rfl⟩
      rw [hs] at hs1 hs2
      generalize V.getD q 0 = a at *
      generalize b.getD k 0 = x at *
      have hps : (2 : Nat) ^ s ≤ 2 ^ 56 := Nat.pow_le_pow_right (by decide) (by omega)
      have hxs : x * 2 ^ s < 18446744073709551616 - 2 ^ 56 + 1 := Nat.lt_of_le_of_lt (Nat.mul_le_mul (show x ≤ 255 by omega) hps) (by decide)
      have hor := or_add (x := x) hs2
      have cx : (x : Int) * 2 ^ s = ((x * 2 ^ s : Nat) : Int) := by simp
      have hps2 : (2 : Nat) ^ s < 2 ^ 57 := Nat.lt_of_le_of_lt hps (by decide)
      obtain ⟨m, hm⟩ : ∃ m, x * 2 ^ s = m := ⟨_, rfl⟩
      rw [hm] at hs1 hxs hor cx
      generalize hPS : (2 : Nat) ^ s = ps at *
      have hml : m < 18446744073709551616 := by omega
      have hal : a < 72057594037927936 := by have e := hps; simp at e; omega
      have es : IntKind.u64.wrap ((x : Int) * 2 ^ s) = (m : Int) := by rw [cx, IntKind.wrap_u64]; omega
      obtain ⟨z, hz⟩ : ∃ z, a + m = z := ⟨_, rfl⟩
      rw [hz] at hs1 hor
      have hzl : z < 18446744073709551616 := by simp at hxs; omega
      have eo : bits .or .u64 (a : Int) (m : Int) = (z : Int) := by rw [u64_or_nat a m hwlo hml, hor]
      have ea : IntKind.u64.wrap ((a : Int) + (m : Int)) = (z : Int) := by rw [IntKind.wrap_u64]; omega
      have ex : IntKind.u64.wrap (x : Int) = (x : Int) := by rw [IntKind.wrap_u64]; omega
      have dq : (k : Int).tdiv 8 = (q : Int) := by rw [Int.tdiv_eq_ediv_of_nonneg (by omega)]; omega
      have dq' : (k : Int) / 8 = (q : Int) := by omega
      have bq : (q : Int) < 4 := by omega
      have dr : (k : Int).tmod 8 = (r : Int) := by rw [Int.tmod_eq_emod_of_nonneg (by omega)]; omega
      have dr' : (k : Int) % 8 = (r : Int) := by omega
      have ds : IntKind.i64.wrap ((r : Int) * 8) = (s : Int) := by rw [IntWalk.i64_in _ ⟨by omega, by omega⟩]; omega
      have ds' : (r : Int) * 8 = (s : Int) := by omega
      have du : IntKind.u64.wrap (s : Int) = (s : Int) := by rw [IntKind.wrap_u64]; omega
      have bs : (s : Int) < 64 := by omega
      have bk : (k : Int) < 32 := by omega
      have wq : IntKind.i64.wrap (q : Int) = (q : Int) := by rw [IntWalk.i64_in _ ⟨by omega, by omega⟩]
      have wr' : IntKind.i64.wrap (r : Int) = (r : Int) := by rw [IntWalk.i64_in _ ⟨by omega, by omega⟩]
      have ws' : IntKind.i64.wrap (s : Int) = (s : Int) := by rw [IntWalk.i64_in _ ⟨by omega, by omega⟩]
      have HV := Away.mk hs1

      have m2 := r2.drew.other (i := q) (.int .u64 (z : Int)) (show w.heap.size + 1 ≠ w.heap.size + 1 + 1 by omega)
      have m4 := row_set q4.drew q z
      have mL := (below_drawn hL).setCell (p := ⟨w.heap.size + 1 + 1, q, none⟩) (by simp; omega) (.int .u64 (z : Int))
      clear hs1 hs2 hs3 hv bx hq hr hs hps hps2 hxs hor cx hm hPS hml hal hz hzl hwlo r2 q4 hL lV
      go_wp2
      refine wp_region_noPanic ?_
      refine wp_region_U (S := fun w' => w'.cell? ⟨w.heap.size + 1 + 1, q, none⟩ = some (.int .u64 (a : Int))) 12 (by kernel_rfl) (c4) (fun hHeld => ?_)
      refine wpAnyU_takeL (i := 0) (v := ?v0r) rfl (by kernel_rfl) (by kernel_rfl) (by kernel_rfl) (by kernel_rfl) (fun _ _ _ h => h) (by rfl) ?h0r (by assumption) ?_
      case h0r => intro w hSw; go_simp <;> with_reducible rfl
      simp only [Act.put, List.setIfInBounds_toArray, List.set_cons_zero, List.set_cons_succ]
      refine wpAnyU_takeL (i := 1) (v := ?v1r) rfl (by kernel_rfl) (by kernel_rfl) (by kernel_rfl) (by kernel_rfl) (fun _ _ _ h => h) (by rfl) ?h1r (by assumption) ?_
      case h1r => intro w hSw; go_simp <;> with_reducible rfl
      simp only [Act.put, List.setIfInBounds_toArray, List.set_cons_zero, List.set_cons_succ]
      refine wpAnyU_takeL (i := 2) (v := ?v2r) rfl (by kernel_rfl) (by kernel_rfl) (by kernel_rfl) (by kernel_rfl) (fun _ _ _ h => h) (by rfl) ?h2r (by assumption) ?_
      case h2r => intro w hSw; go_simp <;> with_reducible rfl
      simp only [Act.put, List.setIfInBounds_toArray, List.set_cons_zero, List.set_cons_succ]
      refine wpAnyU_takeL (i := 3) (v := ?v3r) rfl (by kernel_rfl) (by kernel_rfl) (by kernel_rfl) (by kernel_rfl) (fun _ _ _ h => h) (by rfl) ?h3r (by assumption) ?_
      case h3r => intro w hSw; go_simp <;> with_reducible rfl
      simp only [Act.put, List.setIfInBounds_toArray, List.set_cons_zero, List.set_cons_succ]
      refine wpAnyU_takeL (i := 4) (v := ?v4r) rfl (by kernel_rfl) (by kernel_rfl) (by kernel_rfl) (by kernel_rfl) (fun _ _ _ h => h) (by rfl) ?h4r (by assumption) ?_
      case h4r => intro w hSw; go_simp <;> with_reducible rfl
      simp only [Act.put, List.setIfInBounds_toArray, List.set_cons_zero, List.set_cons_succ]
      refine wpAnyU_takeL (i := 5) (v := ?v5r) rfl (by kernel_rfl) (by kernel_rfl) (by kernel_rfl) (by kernel_rfl) (fun _ _ _ h => h) (by rfl) ?h5r (by assumption) ?_
      case h5r => intro w hSw; go_simp <;> with_reducible rfl
      simp only [Act.put, List.setIfInBounds_toArray, List.set_cons_zero, List.set_cons_succ]
      refine wpAnyU_takeL (i := 6) (v := ?v6r) rfl (by kernel_rfl) (by kernel_rfl) (by kernel_rfl) (by kernel_rfl) (fun _ _ _ h => h) (by rfl) ?h6r (by assumption) ?_
      case h6r => intro w hSw; go_simp <;> with_reducible rfl
      simp only [Act.put, List.setIfInBounds_toArray, List.set_cons_zero, List.set_cons_succ]
      refine wpAnyU_takeL (i := 7) (v := ?v7r) rfl (by kernel_rfl) (by kernel_rfl) (by kernel_rfl) (by kernel_rfl) (fun _ _ _ h => h) (by rfl) ?h7r (by assumption) ?_
      case h7r => intro w hSw; go_simp <;> with_reducible rfl
      simp only [Act.put, List.setIfInBounds_toArray, List.set_cons_zero, List.set_cons_succ]
      refine wpAnyU_takeL (i := 8) (v := ?v8r) rfl (by kernel_rfl) (by kernel_rfl) (by kernel_rfl) (by kernel_rfl) (fun _ _ _ h => h) (by rfl) ?h8r (by assumption) ?_
      case h8r => intro w hSw; go_simp <;> with_reducible rfl
      simp only [Act.put, List.setIfInBounds_toArray, List.set_cons_zero, List.set_cons_succ]
      refine wpAnyU_takeL (i := 9) (v := ?v9r) rfl (by kernel_rfl) (by kernel_rfl) (by kernel_rfl) (by kernel_rfl) (fun _ _ _ h => h) (by rfl) ?h9r (by assumption) ?_
      case h9r => intro w hSw; go_simp <;> with_reducible rfl
      simp only [Act.put, List.setIfInBounds_toArray, List.set_cons_zero, List.set_cons_succ]
      refine wpAnyU_takeL (i := 10) (v := ?v10r) rfl (by kernel_rfl) (by kernel_rfl) (by kernel_rfl) (by kernel_rfl) (fun _ _ _ h => h) (by rfl) ?h10r (by assumption) ?_
      case h10r => intro w hSw; go_simp <;> with_reducible rfl
      simp only [Act.put, List.setIfInBounds_toArray, List.set_cons_zero, List.set_cons_succ]
      refine wpAnyU_takeL (i := 11) (v := ?v11r) rfl (by kernel_rfl) (by kernel_rfl) (by kernel_rfl) (by kernel_rfl) (fun _ _ _ h => h) (by rfl) ?h11r (by assumption) ?_
      case h11r => intro w hSw; go_simp <;> with_reducible rfl
      simp only [Act.put, List.setIfInBounds_toArray, List.set_cons_zero, List.set_cons_succ]
      refine wpAnyU_oneL (i := 12) (by kernel_rfl) rfl (by rfl) (fun K hK => ?_)
      have c4d : wr.drew.cell? ⟨w.heap.size + 1 + 1, q, none⟩ = some (.int .u64 (a : Int)) := c4
      have hfd : wr.drew.frozen? ⟨w.heap.size + 1 + 1, q, none⟩ = false := hf
      go_simp
      refine hK.out _ _ (fun hz => absurd rfl hz) (fun hHeld => ?_)
      clear hK K
      refine wpAnyU_done (by kernel_rfl) ?_ _
      refine NoPanic.normal ?_

      clear c4 hf hix
      go_wp2
      go_roundw
      case rel => exact ⟨k + 1, by omega, by go_num, m2, by rw [← HV.out]; exact m4, mL⟩
      case measure => simp [intOf]; omega
    · have HK : Away (k = 32) := ⟨by omega⟩
      have dk : decide ((k : Int) < 32) = false := decide_eq_false (by omega)
      rw [HK.out, List.take_of_length_le (Nat.le_of_eq hl), HN.out] at q4
      clear hlt hk hbi
      have hre := reduce_el N hNl
      go_upto_region 7 with fail
      replace q4 := q4.drew
      replace r2 := r2.drew
      replace hL := below_drawn hL
      refine wp_region_noPanic ?_
      refine wp_region_held_drew (S := fun w' => Row w' (w.heap.size + 1 + 1) 24 (C .u64 (wds N))) (by kernel_rfl) q4 (fun hHeld => ?_)
      refine wpAnyH_takeL (i := 0) (v := (.agg (C .u64 (wds N)).toArray)) rfl (by kernel_rfl) (by kernel_rfl) (by kernel_rfl) (fun _ _ _ h => h) (by rfl) ?h0 (by assumption) ?_
      case h0 => intro w hSw; exact exec_load_R 24 _ rfl rfl hSw Tryd.underlying24 (ie4 N)
      simp only [Act.put, List.setIfInBounds_toArray, List.set_cons_zero, List.set_cons_succ]
      refine wpAnyH_takeL (i := 1) (v := (.agg (C .u64 (wds N)).toArray)) rfl (by kernel_rfl) (by kernel_rfl) (by kernel_rfl) (fun _ _ _ h => h) (by rfl) ?h1 (by assumption) ?_
      case h1 => intro w hSw; exact exec_load_R 24 _ rfl rfl hSw Tryd.underlying24 (ie4 N)
      simp only [Act.put, List.setIfInBounds_toArray, List.set_cons_zero, List.set_cons_succ]
      refine allReadyH_oneL (i := 2) (by kernel_rfl) rfl (by rfl) (fun K hK => ?_)
      go_simp
      refine (hre _ (hT.below hL)).mono ?_
      rintro _ wn ⟨rfl, hb2⟩
      replace q4 := q4.belowS hb2
      replace r2 := r2.belowS hb2
      replace hL := hL.trans (hb2.mono hL.size)
      clear hb2 hre
      refine hK.out _ _ q4 (fun hHeld => ?_)
      clear hK K
      by_cases hlt : N < P
      · have hq := fun w => neq4 w N N hNl hNl
        simp only [decide_true] at hq
        rw [Nat.mod_eq_of_lt hlt]
        refine wpAnyH_takeL (i := 3) (v := .bool false) rfl (by kernel_rfl) (by kernel_rfl) (by kernel_rfl) (fun _ _ _ h => h) (by rfl) ?h3 (by assumption) ?_
        case h3 => intro w hSw; go_simp <;> first | rfl | (simp only [hq]; rfl)
        simp only [Act.put, List.setIfInBounds_toArray, List.set_cons_zero, List.set_cons_succ]
        clear hq
        refine wpAnyH_done (by kernel_rfl) ?_ _
        refine NoPanic.normal ?_
        go_wp2_with (first | refine wpList_load_row rfl 24 _ rfl _ rfl _ _ _ _ q4 Tryd.underlying24 rfl (ie4 _) ?_ | (refine wpList_store_R rfl 24 _ _ rfl _ (C .u64 (wds N)) rfl rfl r2 (ie4 _) (ze4 _) (C_allL _ _) ?_; intro w7 q7 hg7 hz7))
        exact result_row2 Tryd.results26 (v := .bool true) rfl rfl q7 Tryd.underlying24 rfl (ie4 _) rfl ⟨by rw [← HD.out, ← HO.out, if_pos hlt, decide_eq_true hlt], below_grown hL hg7 (by omega) r2.lt⟩
      · have hm := mod_lt_P N
        have hq := fun w => neq4 w N (N % P) hNl (mod_lt_T _)
        simp only [decide_eq_false (show ¬ N = N % P by omega)] at hq
        generalize N % P = N2 at *
        refine wpAnyH_takeL (i := 3) (v := .bool true) rfl (by kernel_rfl) (by kernel_rfl) (by kernel_rfl) (fun _ _ _ h => h) (by rfl) ?h3' (by assumption) ?_
        case h3' => intro w hSw; go_simp <;> first | rfl | (simp only [hq]; rfl)
        simp only [Act.put, List.setIfInBounds_toArray, List.set_cons_zero, List.set_cons_succ]
        clear hq
        refine wpAnyH_done (by kernel_rfl) ?_ _
        refine NoPanic.normal ?_
        go_wp2_with (first | refine wpList_build_Z rfl 24 rfl _ b4z ?_ | (refine wpList_store_R rfl 24 _ _ rfl _ (C .u64 (wds 0)) rfl rfl r2 (ie4 _) (ze4 _) (C_allL _ _) ?_; intro w7 q7 hg7 hz7))
        exact result_row2 Tryd.results26 (v := .bool false) rfl rfl q7 Tryd.underlying24 rfl (ie4 _) rfl ⟨by rw [← HD.out, ← HO.out, if_neg hlt, decide_eq_false hlt], below_grown hL hg7 (by omega) r2.lt⟩

set_option maxHeartbeats 2000000 in
theorem fwhole_any (v : Value) (b : List Nat) (hb : Lo 256 b) (hl : b.length = 32) (w : World) (hv : SlV w v (C .u8 b)) : Calls Tryd.prog 48 #[v] w fun e w' => e = .returned (.agg (C .u64 (wds (val 256 b))).toArray) ∧ Below w.heap.size w w' := by
  obtain ⟨sa, sc, rfl, hcap1, hcap2⟩ := hv.shp hl
  obtain ⟨gb, off, rfl, hgb⟩ := hv.old (by rw [C_length, hl]; decide)
  have r2 := Row.new w 24 (C .u64 (Z 4))
  have hL := (Below.more (Below.refl w.heap.size w) (Nat.le_refl _) (.cells (C .u64 (Z 4)).toArray 24)).1
  have r4 := Row.newAt (w.alloc (.cells (C .u64 (Z 4)).toArray 24)) (w.heap.size + 1) (by simp) 24 (C .u64 (Z 4))
  replace r2 := r2.alloc (.cells (C .u64 (Z 4)).toArray 24)
  replace hL := hL.alloc (by simp) (.cells (C .u64 (Z 4)).toArray 24)
  generalize hw2 : (w.alloc (.cells (C .u64 (Z 4)).toArray 24)).alloc (.cells (C .u64 (Z 4)).toArray 24) = w2 at *
  obtain ⟨N, hN⟩ : ∃ N, val 256 b = N := ⟨_, rfl⟩
  rw [hN]
  have HN := Away.mk hN
  clear hN
  go_enter Tryd.func48, Tryd.ntmps48
  go_upto_region 1 with (refine wpList_alloc_row rfl 24 rfl _ z4 ?_)
  subst hw2
  go_upto_region 2 with (first | refine wpList_alloc_row rfl 24 rfl _ z4 ?_ | refine wpList_build_Z rfl 24 rfl _ b4 ?_ | (refine wpList_store_R rfl 24 _ _ rfl _ (C .u64 (Z 4)) (by first | rfl | (simp; rfl)) rfl r4 i4 rfl (C_allL _ _) ?_; intro w5 q4 hg5 hz5))
  replace r2 := r2.grown hg5 (by simp)
  replace hL := below_grown hL hg5 (by omega) r4.lt
  clear r4 hg5
  rw [show Z 4 = wds (val 256 (b.take 0)) by rw [List.take_zero]; rfl] at q4
  try simp only [alloc_size]
  go_wp2
  go_loopw [4] (fun i wr => ∃ k : Nat, k ≤ 32 ∧ i = .int .i64 k ∧ Row wr w.heap.size 24 (C .u64 (Z 4)) ∧ Row wr (w.heap.size + 1) 24 (C .u64 (wds (val 256 (b.take k)))) ∧ Below w.heap.size w wr) (fun i _ => 32 - (intOf i).toNat)
  case atStart => exact ⟨0, Nat.zero_le _, rfl, r2, q4, hL⟩
  case round =>
    clear r2 q4 hL
    obtain ⟨k, hk, rfl, r2, q4, hL⟩ := hrel
    by_cases hlt : k < 32
    · have cb := (hv.below hL).cellAt (C_get .u8 (i := k) (by omega))
      have bx := hb.getD (by decide) k
      have hv := val_take_lt (B := 256) (by decide) hb k
      obtain ⟨hs1, hs2, hs3⟩ := word_set hlt hv bx
      rw [← val_take_succ] at hs1
      have lV := wds_length (val 256 (b.take k))
      have hwlo := (wds_lo (val 256 (b.take k))).getD (by decide) (k / 8)
      generalize wds (val 256 (b.take k)) = V at *
      have c4 := q4.cell (k / 8)
      rw [C_get .u64 (by omega)] at c4
      have hf := q4.frozen (k / 8)
      obtain ⟨q, hq⟩ : ∃ q, k / 8 = q := ⟨_, rfl⟩
      obtain ⟨r, hr⟩ : ∃ r, k % 8 = r := ⟨_, rfl⟩
      rw [hq] at c4 hs1 hs2 hf hwlo
      rw [hr] at hs1 hs2
      obtain ⟨s, hs⟩ : ∃ s, 8 * r = s := ⟨_, rfl⟩
      rw [hs] at hs1 hs2
      generalize V.getD q 0 = a at *
      generalize b.getD k 0 = x at *
      have hps : (2 : Nat) ^ s ≤ 2 ^ 56 := Nat.pow_le_pow_right (by decide) (by omega)
      have hxs : x * 2 ^ s < 18446744073709551616 - 2 ^ 56 + 1 := Nat.lt_of_le_of_lt (Nat.mul_le_mul (show x ≤ 255 by omega) hps) (by decide)
      have hor := or_add (x := x) hs2
      have cx : (x : Int) * 2 ^ s = ((x * 2 ^ s : Nat) : Int) := by simp
      have hps2 : (2 : Nat) ^ s < 2 ^ 57 := Nat.lt_of_le_of_lt hps (by decide)
      obtain ⟨m, hm⟩ : ∃ m, x * 2 ^ s = m := ⟨_, rfl⟩
      rw [hm] at hs1 hxs hor cx
      generalize hPS : (2 : Nat) ^ s = ps at *
      have hml : m < 18446744073709551616 := by omega
      have hal : a < 72057594037927936 := by have e := hps; simp at e; omega
      have es : IntKind.u64.wrap ((x : Int) * 2 ^ s) = (m : Int) := by rw [cx, IntKind.wrap_u64]; omega
      obtain ⟨z, hz⟩ : ∃ z, a + m = z := ⟨_, rfl⟩
      rw [hz] at hs1 hor
      have hzl : z < 18446744073709551616 := by simp at hxs; omega
      have eo : bits .or .u64 (a : Int) (m : Int) = (z : Int) := by rw [u64_or_nat a m hwlo hml, hor]
      have ea : IntKind.u64.wrap ((a : Int) + (m : Int)) = (z : Int) := by rw [IntKind.wrap_u64]; omega
      have ex : IntKind.u64.wrap (x : Int) = (x : Int) := by rw [IntKind.wrap_u64]; omega
      have dq : (k : Int).tdiv 8 = (q : Int) := by rw [Int.tdiv_eq_ediv_of_nonneg (by omega)]; omega
      have dq' : (k : Int) / 8 = (q : Int) := by omega
      have bq : (q : Int) < 4 := by omega
      have dr : (k : Int).tmod 8 = (r : Int) := by rw [Int.tmod_eq_emod_of_nonneg (by omega)]; omega
      have dr' : (k : Int) % 8 = (r : Int) := by omega
      have ds : IntKind.i64.wrap (8 * (r : Int)) = (s : Int) := by rw [IntWalk.i64_in _ ⟨by omega, by omega⟩]; omega
      have ds' : 8 * (r : Int) = (s : Int) := by omega
      have du : IntKind.u64.wrap (s : Int) = (s : Int) := by rw [IntKind.wrap_u64]; omega
      have bs : (s : Int) < 64 := by omega
      have bk : (k : Int) < 32 := by omega
      have wq : IntKind.i64.wrap (q : Int) = (q : Int) := by rw [IntWalk.i64_in _ ⟨by omega, by omega⟩]
      have wr' : IntKind.i64.wrap (r : Int) = (r : Int) := by rw [IntWalk.i64_in _ ⟨by omega, by omega⟩]
      have ws' : IntKind.i64.wrap (s : Int) = (s : Int) := by rw [IntWalk.i64_in _ ⟨by omega, by omega⟩]
      have HV := Away.mk hs1

      have m2 := r2.drew.other (i := q) (.int .u64 (z : Int)) (show w.heap.size ≠ w.heap.size + 1 by omega)
      have m4 := row_set q4.drew q z
      have mL := (below_drawn hL).setCell (p := ⟨w.heap.size + 1, q, none⟩) (by simp) (.int .u64 (z : Int))
      have c4d : wr.drew.cell? ⟨w.heap.size + 1, q, none⟩ = some (.int .u64 (a : Int)) := c4
      have hfd : wr.drew.frozen? ⟨w.heap.size + 1, q, none⟩ = false := hf
      have cbd : wr.drew.cell? ⟨gb, off + k, none⟩ = some (.int .u8 (x : Int)) := cb
      clear hs1 hs2 hs3 hv bx hq hr hs hps hps2 hxs hor cx hm hPS hml hal hz hzl hwlo r2 q4 hL lV c4 hf cb
      go_wp2
      refine wp_region_noPanic ?_
      refine wp_region_U (S := fun w' => w'.cell? ⟨w.heap.size + 1, q, none⟩ = some (.int .u64 (a : Int)) ∧ w'.cell? ⟨gb, off + k, none⟩ = some (.int .u8 (x : Int))) 18 (by kernel_rfl) (⟨c4d, cbd⟩) (fun hHeld => ?_)
      refine wpAnyU_takeL (i := 0) (v := ?v0s) rfl (by kernel_rfl) (by kernel_rfl) (by kernel_rfl) (by kernel_rfl) (fun _ _ _ h => h) (by rfl) ?h0s (by assumption) ?_
      case h0s => intro w hSw; obtain ⟨hS1, hS2⟩ := hSw; go_simp <;> with_reducible rfl
      simp only [Act.put, List.setIfInBounds_toArray, List.set_cons_zero, List.set_cons_succ]
      refine wpAnyU_takeL (i := 1) (v := ?v1s) rfl (by kernel_rfl) (by kernel_rfl) (by kernel_rfl) (by kernel_rfl) (fun _ _ _ h => h) (by rfl) ?h1s (by assumption) ?_
      case h1s => intro w hSw; obtain ⟨hS1, hS2⟩ := hSw; go_simp <;> with_reducible rfl
      simp only [Act.put, List.setIfInBounds_toArray, List.set_cons_zero, List.set_cons_succ]
      refine wpAnyU_takeL (i := 2) (v := ?v2s) rfl (by kernel_rfl) (by kernel_rfl) (by kernel_rfl) (by kernel_rfl) (fun _ _ _ h => h) (by rfl) ?h2s (by assumption) ?_
      case h2s => intro w hSw; obtain ⟨hS1, hS2⟩ := hSw; go_simp <;> with_reducible rfl
      simp only [Act.put, List.setIfInBounds_toArray, List.set_cons_zero, List.set_cons_succ]
      refine wpAnyU_takeL (i := 3) (v := ?v3s) rfl (by kernel_rfl) (by kernel_rfl) (by kernel_rfl) (by kernel_rfl) (fun _ _ _ h => h) (by rfl) ?h3s (by assumption) ?_
      case h3s => intro w hSw; obtain ⟨hS1, hS2⟩ := hSw; go_simp <;> with_reducible rfl
      simp only [Act.put, List.setIfInBounds_toArray, List.set_cons_zero, List.set_cons_succ]
      refine wpAnyU_takeL (i := 4) (v := ?v4s) rfl (by kernel_rfl) (by kernel_rfl) (by kernel_rfl) (by kernel_rfl) (fun _ _ _ h => h) (by rfl) ?h4s (by assumption) ?_
      case h4s => intro w hSw; obtain ⟨hS1, hS2⟩ := hSw; go_simp <;> with_reducible rfl
      simp only [Act.put, List.setIfInBounds_toArray, List.set_cons_zero, List.set_cons_succ]
      refine wpAnyU_takeL (i := 5) (v := ?v5s) rfl (by kernel_rfl) (by kernel_rfl) (by kernel_rfl) (by kernel_rfl) (fun _ _ _ h => h) (by rfl) ?h5s (by assumption) ?_
      case h5s => intro w hSw; obtain ⟨hS1, hS2⟩ := hSw; go_simp <;> with_reducible rfl
      simp only [Act.put, List.setIfInBounds_toArray, List.set_cons_zero, List.set_cons_succ]
      refine wpAnyU_takeL (i := 6) (v := ?v6s) rfl (by kernel_rfl) (by kernel_rfl) (by kernel_rfl) (by kernel_rfl) (fun _ _ _ h => h) (by rfl) ?h6s (by assumption) ?_
      case h6s => intro w hSw; obtain ⟨hS1, hS2⟩ := hSw; go_simp <;> with_reducible rfl
      simp only [Act.put, List.setIfInBounds_toArray, List.set_cons_zero, List.set_cons_succ]
      refine wpAnyU_takeL (i := 7) (v := ?v7s) rfl (by kernel_rfl) (by kernel_rfl) (by kernel_rfl) (by kernel_rfl) (fun _ _ _ h => h) (by rfl) ?h7s (by assumption) ?_
      case h7s => intro w hSw; obtain ⟨hS1, hS2⟩ := hSw; go_simp <;> with_reducible rfl
      simp only [Act.put, List.setIfInBounds_toArray, List.set_cons_zero, List.set_cons_succ]
      refine wpAnyU_takeL (i := 8) (v := ?v8s) rfl (by kernel_rfl) (by kernel_rfl) (by kernel_rfl) (by kernel_rfl) (fun _ _ _ h => h) (by rfl) ?h8s (by assumption) ?_
      case h8s => intro w hSw; obtain ⟨hS1, hS2⟩ := hSw; go_simp <;> with_reducible rfl
      simp only [Act.put, List.setIfInBounds_toArray, List.set_cons_zero, List.set_cons_succ]
      refine wpAnyU_takeL (i := 9) (v := ?v9s) rfl (by kernel_rfl) (by kernel_rfl) (by kernel_rfl) (by kernel_rfl) (fun _ _ _ h => h) (by rfl) ?h9s (by assumption) ?_
      case h9s => intro w hSw; obtain ⟨hS1, hS2⟩ := hSw; go_simp <;> with_reducible rfl
      simp only [Act.put, List.setIfInBounds_toArray, List.set_cons_zero, List.set_cons_succ]
      refine wpAnyU_takeL (i := 10) (v := ?v10s) rfl (by kernel_rfl) (by kernel_rfl) (by kernel_rfl) (by kernel_rfl) (fun _ _ _ h => h) (by rfl) ?h10s (by assumption) ?_
      case h10s => intro w hSw; obtain ⟨hS1, hS2⟩ := hSw; go_simp <;> with_reducible rfl
      simp only [Act.put, List.setIfInBounds_toArray, List.set_cons_zero, List.set_cons_succ]
      refine wpAnyU_takeL (i := 11) (v := ?v11s) rfl (by kernel_rfl) (by kernel_rfl) (by kernel_rfl) (by kernel_rfl) (fun _ _ _ h => h) (by rfl) ?h11s (by assumption) ?_
      case h11s => intro w hSw; obtain ⟨hS1, hS2⟩ := hSw; go_simp <;> with_reducible rfl
      simp only [Act.put, List.setIfInBounds_toArray, List.set_cons_zero, List.set_cons_succ]
      refine wpAnyU_takeL (i := 12) (v := ?v12s) rfl (by kernel_rfl) (by kernel_rfl) (by kernel_rfl) (by kernel_rfl) (fun _ _ _ h => h) (by rfl) ?h12s (by assumption) ?_
      case h12s => intro w hSw; obtain ⟨hS1, hS2⟩ := hSw; go_simp <;> with_reducible rfl
      simp only [Act.put, List.setIfInBounds_toArray, List.set_cons_zero, List.set_cons_succ]
      refine wpAnyU_takeL (i := 13) (v := ?v13s) rfl (by kernel_rfl) (by kernel_rfl) (by kernel_rfl) (by kernel_rfl) (fun _ _ _ h => h) (by rfl) ?h13s (by assumption) ?_
      case h13s => intro w hSw; obtain ⟨hS1, hS2⟩ := hSw; go_simp <;> with_reducible rfl
      simp only [Act.put, List.setIfInBounds_toArray, List.set_cons_zero, List.set_cons_succ]
      refine wpAnyU_takeL (i := 14) (v := ?v14s) rfl (by kernel_rfl) (by kernel_rfl) (by kernel_rfl) (by kernel_rfl) (fun _ _ _ h => h) (by rfl) ?h14s (by assumption) ?_
      case h14s => intro w hSw; obtain ⟨hS1, hS2⟩ := hSw; go_simp <;> with_reducible rfl
      simp only [Act.put, List.setIfInBounds_toArray, List.set_cons_zero, List.set_cons_succ]
      refine wpAnyU_takeL (i := 15) (v := ?v15s) rfl (by kernel_rfl) (by kernel_rfl) (by kernel_rfl) (by kernel_rfl) (fun _ _ _ h => h) (by rfl) ?h15s (by assumption) ?_
      case h15s => intro w hSw; obtain ⟨hS1, hS2⟩ := hSw; go_simp <;> with_reducible rfl
      simp only [Act.put, List.setIfInBounds_toArray, List.set_cons_zero, List.set_cons_succ]
      refine wpAnyU_takeL (i := 16) (v := ?v16s) rfl (by kernel_rfl) (by kernel_rfl) (by kernel_rfl) (by kernel_rfl) (fun _ _ _ h => h) (by rfl) ?h16s (by assumption) ?_
      case h16s => intro w hSw; obtain ⟨hS1, hS2⟩ := hSw; go_simp <;> with_reducible rfl
      simp only [Act.put, List.setIfInBounds_toArray, List.set_cons_zero, List.set_cons_succ]
      refine wpAnyU_takeL (i := 17) (v := ?v17s) rfl (by kernel_rfl) (by kernel_rfl) (by kernel_rfl) (by kernel_rfl) (fun _ _ _ h => h) (by rfl) ?h17s (by assumption) ?_
      case h17s => intro w hSw; obtain ⟨hS1, hS2⟩ := hSw; go_simp <;> with_reducible rfl
      simp only [Act.put, List.setIfInBounds_toArray, List.set_cons_zero, List.set_cons_succ]
      refine wpAnyU_oneL (i := 18) (by kernel_rfl) rfl (by rfl) (fun K hK => ?_)
      go_simp
      refine hK.out _ _ (fun hz => absurd rfl hz) (fun hHeld => ?_)
      clear hK K
      refine wpAnyU_done (by kernel_rfl) ?_ _
      refine NoPanic.normal ?_

      clear c4d hfd cbd
      go_wp2
      go_roundw
      case rel => exact ⟨k + 1, by omega, by go_num, m2, by rw [← HV.out]; exact m4, mL⟩
      case measure => simp [intOf]; omega
    · have HK : Away (k = 32) := ⟨by omega⟩
      have dk : decide ((k : Int) < 32) = false := decide_eq_false (by omega)
      rw [HK.out, List.take_of_length_le (Nat.le_of_eq hl), HN.out] at q4
      clear hlt hk hv
      go_wp2_with (first | refine wpList_load_row rfl 24 _ rfl _ rfl _ _ _ _ q4 Tryd.underlying24 rfl (ie4 _) ?_ | (refine wpList_store_R rfl 24 _ _ rfl _ (C .u64 (wds N)) rfl rfl r2 (ie4 _) (ze4 _) (C_allL _ _) ?_; intro w7 q7 hg7 hz7))
      exact result_row Tryd.results48 rfl q7 Tryd.underlying24 rfl (ie4 _) rfl ⟨rfl, below_grown hL hg7 (by omega) r2.lt⟩

theorem new_read {w w0 : World} {g g4 : Nat} {us vs : List Value} {t : TypeId} (q4 : Row w g4 24 us) (h3 : Row w g t vs) (hL : Below w0.heap.size w0 w) (hsz : g4 < w.heap.size) : ∃ g5 : Nat, w.heap.size = g5 ∧ Row (w.alloc (.cells (C .u64 (Z 4)).toArray 24)) g5 24 (C .u64 (Z 4)) ∧ g4 < g5 ∧ g < g5 ∧ Row (w.alloc (.cells (C .u64 (Z 4)).toArray 24)) g4 24 us ∧ Row (w.alloc (.cells (C .u64 (Z 4)).toArray 24)) g t vs ∧ Below w0.heap.size w0 (w.alloc (.cells (C .u64 (Z 4)).toArray 24)) ∧ g4 < (w.alloc (.cells (C .u64 (Z 4)).toArray 24)).heap.size :=
  ⟨_, rfl, Row.new w _ _, hsz, h3.lt, q4.alloc _, h3.alloc _, hL.alloc hL.size _, by rw [alloc_size]; omega⟩

set_option maxHeartbeats 4000000 in
theorem frefread_any (b : List Nat) (hb : Lo 256 b) (hl : b.length = 32) (w : World) : Calls Tryd.prog 27 #[.agg (C .u8 b).toArray] w fun e w' => e = .returned (.tuple #[el (if val 256 b < P then val 256 b else 0), .bool (decide (val 256 b < P))]) ∧ Below w.heap.size w w' := by
  obtain ⟨w2, h2, r1, h3, hL, hS⟩ := rows2 w 32 24 (C .u8 b) (C .u64 (Z 4))
  have hsl := r1.slAll (by rw [C_length, hl]; unfold maxLen; omega)
  rw [C_length, hl] at hsl
  have hwh := fwhole_any _ b hb hl _ hsl
  have hNl := val_bytes_lt hb hl
  obtain ⟨N, hN⟩ : ∃ N, val 256 b = N := ⟨_, rfl⟩
  rw [hN] at hNl hwh ⊢
  have HN := Away.mk hN
  clear hN
  obtain ⟨D, hD⟩ : ∃ D, (if N < P then N else 0) = D := ⟨_, rfl⟩
  rw [hD]
  have HD := Away.mk hD
  clear hD
  obtain ⟨ov, hov⟩ : ∃ ov, decide (N < P) = ov := ⟨_, rfl⟩
  rw [hov]
  have HO := Away.mk hov
  clear hov
  have hlp := refless_NP N hNl
  rw [show decide (N < P) = ov from HO.out] at hlp
  generalize (N + 115792089237316195423570985008687907853269984665640564039457584007913129639936 - P) % 115792089237316195423570985008687907853269984665640564039457584007913129639936 = D2 at *
  unfold el
  go_enter Tryd.func27, Tryd.ntmps27
  go_upto_region 1 with (refine wpList_alloc_row rfl 24 rfl _ z4 ?_)
  try simp only [Act.put, List.setIfInBounds_toArray, List.set_cons_zero, List.set_cons_succ, alloc_size, h2]
  clear h2
  go_wp2_with fail
  refine hwh.mono ?_
  rintro _ wn ⟨rfl, hb2⟩
  replace h3 := h3.belowS hb2
  replace hL := hL.trans (hb2.mono hL.size)
  have hgs := hb2.size
  clear hb2 r1 hsl
  have q0 := Row.new wn 24 (C .u64 (Z 4))
  have hn3 := h3.lt
  replace h3 := h3.alloc (.cells (C .u64 (Z 4)).toArray 24)
  replace hL := hL.alloc hL.size (.cells (C .u64 (Z 4)).toArray 24)
  generalize hg4 : wn.heap.size = g4 at *
  go_upto_region 2 with (first | refine wpList_alloc_row rfl 24 rfl _ z4 ?_ | (refine wpList_store_R rfl 24 _ _ rfl _ (C .u64 (wds N)) (by rw [← hg4]; rfl) rfl q0 (ie4 _) (ze4 _) (C_allL _ _) ?_; intro w5 q4 hg5 hz5))
  replace h3 := h3.grown hg5 (by simp; omega)
  replace hL := below_grown hL hg5 (by omega) q0.lt
  try rw [hg4]
  clear q0 hg5 hz5 hg4
  replace q4 := q4.drew
  replace h3 := h3.drew
  replace hL := below_drawn hL
  have hsz := q4.lt
  try simp only [Act.put, List.setIfInBounds_toArray, List.set_cons_zero, List.set_cons_succ]
  go_cut [6] (fun v6 wc => v6 = .bool ov ∧ Row wc g4 24 (C .u64 (wds N)) ∧ Row wc (w.heap.size + 1) 24 (C .u64 (Z 4)) ∧ Below w.heap.size w wc)
  case first =>
    refine wp_region_noPanic ?_
    refine wp_region_held_drew (S := fun w' => Row w' g4 24 (C .u64 (wds N))) (by kernel_rfl) q4 (fun hHeld => ?_)
    refine wpAnyH_takeL (i := 0) (v := (.agg (C .u64 (wds N)).toArray)) rfl (by kernel_rfl) (by kernel_rfl) (by kernel_rfl) (fun _ _ _ h => h) (by rfl) ?h0z (by assumption) ?_
    case h0z => intro w hSw; exact exec_load_R 24 _ rfl rfl hSw Tryd.underlying24 (ie4 N)
    simp only [Act.put, List.setIfInBounds_toArray, List.set_cons_zero, List.set_cons_succ]
    refine ready_twoL (i := 1) (j := 6) (by kernel_rfl) rfl rfl (by rfl) (by rfl) (fun K hK => ?_) (fun K hK => ?_)
    · go_simp
      refine (prime_el _).mono ?_
      rintro _ wn ⟨rfl, hb⟩
      replace q4 := q4.belowS hb
      replace h3 := h3.belowS hb
      replace hL := hL.trans (hb.mono hL.size)
      replace hsz := Nat.lt_of_lt_of_le hsz hb.size
      clear hb
      refine hK.out _ _ q4 (fun hHeld => ?_)
      clear hK K
      refine ready_twoL (i := 2) (j := 6) (by kernel_rfl) rfl rfl (by rfl) (by rfl) (fun K hK => ?_) (fun K hK => ?_)
      · go_simp
        refine (hlp _).mono ?_
        rintro _ wn ⟨rfl, hb⟩
        replace q4 := q4.belowS hb
        replace h3 := h3.belowS hb
        replace hL := hL.trans (hb.mono hL.size)
        replace hsz := Nat.lt_of_lt_of_le hsz hb.size
        clear hb
        refine hK.out _ _ q4 (fun hHeld => ?_)
        clear hK K
        refine wpAnyH_takeL (i := 3) (v := ?v3b) rfl (by kernel_rfl) (by kernel_rfl) (by kernel_rfl) (fun _ _ _ h => h) (by rfl) ?h3b (by assumption) ?_
        case h3b => intro w hSw; go_simp <;> with_reducible rfl
        simp only [Act.put, List.setIfInBounds_toArray, List.set_cons_zero, List.set_cons_succ]
        refine wpAnyH_takeL (i := 4) (v := ?v4b) rfl (by kernel_rfl) (by kernel_rfl) (by kernel_rfl) (fun _ _ _ h => h) (by rfl) ?h4b (by assumption) ?_
        case h4b => intro w hSw; go_simp <;> with_reducible rfl
        simp only [Act.put, List.setIfInBounds_toArray, List.set_cons_zero, List.set_cons_succ]
        refine wpAnyH_takeL (i := 5) (v := ?v5b) rfl (by kernel_rfl) (by kernel_rfl) (by kernel_rfl) (fun _ _ _ h => h) (by rfl) ?h5b (by assumption) ?_
        case h5b => intro w hSw; go_simp <;> with_reducible rfl
        simp only [Act.put, List.setIfInBounds_toArray, List.set_cons_zero, List.set_cons_succ]
        refine allReadyH_oneL (i := 6) (by kernel_rfl) rfl (by rfl) (fun K hK => ?_)
        refine wp_alloc_R 24 rfl (C .u64 (Z 4)) z4 ?_
        obtain ⟨g5, hg5, q5, n5, n6, q4', h3', hL', hsz'⟩ := new_read q4 h3 hL hsz
        replace q4 := q4'
        replace h3 := h3'
        replace hL := hL'
        replace hsz := hsz'
        clear q4' h3' hL' hsz'
        rw [hg5]
        clear hg5
        refine hK.out _ _ q4 (fun hHeld => ?_)
        clear hK K
        refine allReadyH_oneL (i := 7) (by kernel_rfl) rfl (by rfl) (fun K hK => ?_)
        refine wp_store_R 24 _ _ rfl _ (C .u64 (wds D2)) rfl rfl q5 (ie4 _) (ze4 _) (C_allL _ _) ?_
        intro wz q5' hg hz
        replace q4 := q4.grown hg (by simp; omega)
        replace h3 := h3.grown hg (by simp; omega)
        replace hL := below_grown hL hg (by omega) q5.lt
        clear q5 q5' hg
        refine hK.out _ _ q4 (fun hHeld => ?_)
        clear hK K
        refine wpAnyH_takeL (i := 8) (v := ?v8b) rfl (by kernel_rfl) (by kernel_rfl) (by kernel_rfl) (fun _ _ _ h => h) (by rfl) ?h8b (by assumption) ?_
        case h8b => intro w hSw; go_simp <;> with_reducible rfl
        simp only [Act.put, List.setIfInBounds_toArray, List.set_cons_zero, List.set_cons_succ]
        refine wpAnyH_done (by kernel_rfl) ?_ _
        refine NoPanic.normal ?_
        go_wp2
        go_meet
        case rel => exact ⟨rfl, q4, h3, hL⟩
      · refine wp_alloc_R 24 rfl (C .u64 (Z 4)) z4 ?_
        obtain ⟨g5, hg5, q5, n5, n6, q4', h3', hL', hsz'⟩ := new_read q4 h3 hL hsz
        replace q4 := q4'
        replace h3 := h3'
        replace hL := hL'
        replace hsz := hsz'
        clear q4' h3' hL' hsz'
        rw [hg5]
        clear hg5
        refine hK.out _ _ q4 (fun hHeld => ?_)
        clear hK K
        refine allReadyH_oneL (i := 2) (by kernel_rfl) rfl (by rfl) (fun K hK => ?_)
        go_simp
        refine (hlp _).mono ?_
        rintro _ wn ⟨rfl, hb⟩
        replace q4 := q4.belowS hb
        replace h3 := h3.belowS hb
        replace hL := hL.trans (hb.mono hL.size)
        replace hsz := Nat.lt_of_lt_of_le hsz hb.size
        replace q5 := q5.belowS hb
        clear hb
        refine hK.out _ _ q4 (fun hHeld => ?_)
        clear hK K
        refine wpAnyH_takeL (i := 3) (v := ?v3c) rfl (by kernel_rfl) (by kernel_rfl) (by kernel_rfl) (fun _ _ _ h => h) (by rfl) ?h3c (by assumption) ?_
        case h3c => intro w hSw; go_simp <;> with_reducible rfl
        simp only [Act.put, List.setIfInBounds_toArray, List.set_cons_zero, List.set_cons_succ]
        refine wpAnyH_takeL (i := 4) (v := ?v4c) rfl (by kernel_rfl) (by kernel_rfl) (by kernel_rfl) (fun _ _ _ h => h) (by rfl) ?h4c (by assumption) ?_
        case h4c => intro w hSw; go_simp <;> with_reducible rfl
        simp only [Act.put, List.setIfInBounds_toArray, List.set_cons_zero, List.set_cons_succ]
        refine wpAnyH_takeL (i := 5) (v := ?v5c) rfl (by kernel_rfl) (by kernel_rfl) (by kernel_rfl) (fun _ _ _ h => h) (by rfl) ?h5c (by assumption) ?_
        case h5c => intro w hSw; go_simp <;> with_reducible rfl
        simp only [Act.put, List.setIfInBounds_toArray, List.set_cons_zero, List.set_cons_succ]
        refine allReadyH_oneL (i := 7) (by kernel_rfl) rfl (by rfl) (fun K hK => ?_)
        refine wp_store_R 24 _ _ rfl _ (C .u64 (wds D2)) rfl rfl q5 (ie4 _) (ze4 _) (C_allL _ _) ?_
        intro wz q5' hg hz
        replace q4 := q4.grown hg (by simp; omega)
        replace h3 := h3.grown hg (by simp; omega)
        replace hL := below_grown hL hg (by omega) q5.lt
        clear q5 q5' hg
        refine hK.out _ _ q4 (fun hHeld => ?_)
        clear hK K
        refine wpAnyH_takeL (i := 8) (v := ?v8c) rfl (by kernel_rfl) (by kernel_rfl) (by kernel_rfl) (fun _ _ _ h => h) (by rfl) ?h8c (by assumption) ?_
        case h8c => intro w hSw; go_simp <;> with_reducible rfl
        simp only [Act.put, List.setIfInBounds_toArray, List.set_cons_zero, List.set_cons_succ]
        refine wpAnyH_done (by kernel_rfl) ?_ _
        refine NoPanic.normal ?_
        go_wp2
        go_meet
        case rel => exact ⟨rfl, q4, h3, hL⟩
    · refine wp_alloc_R 24 rfl (C .u64 (Z 4)) z4 ?_
      obtain ⟨g5, hg5, q5, n5, n6, q4', h3', hL', hsz'⟩ := new_read q4 h3 hL hsz
      replace q4 := q4'
      replace h3 := h3'
      replace hL := hL'
      replace hsz := hsz'
      clear q4' h3' hL' hsz'
      rw [hg5]
      clear hg5
      refine hK.out _ _ q4 (fun hHeld => ?_)
      clear hK K
      refine allReadyH_oneL (i := 1) (by kernel_rfl) rfl (by rfl) (fun K hK => ?_)
      go_simp
      refine (prime_el _).mono ?_
      rintro _ wn ⟨rfl, hb⟩
      replace q4 := q4.belowS hb
      replace h3 := h3.belowS hb
      replace hL := hL.trans (hb.mono hL.size)
      replace hsz := Nat.lt_of_lt_of_le hsz hb.size
      replace q5 := q5.belowS hb
      clear hb
      refine hK.out _ _ q4 (fun hHeld => ?_)
      clear hK K
      refine allReadyH_oneL (i := 2) (by kernel_rfl) rfl (by rfl) (fun K hK => ?_)
      go_simp
      refine (hlp _).mono ?_
      rintro _ wn ⟨rfl, hb⟩
      replace q4 := q4.belowS hb
      replace h3 := h3.belowS hb
      replace hL := hL.trans (hb.mono hL.size)
      replace hsz := Nat.lt_of_lt_of_le hsz hb.size
      replace q5 := q5.belowS hb
      clear hb
      refine hK.out _ _ q4 (fun hHeld => ?_)
      clear hK K
      refine wpAnyH_takeL (i := 3) (v := ?v3d) rfl (by kernel_rfl) (by kernel_rfl) (by kernel_rfl) (fun _ _ _ h => h) (by rfl) ?h3d (by assumption) ?_
      case h3d => intro w hSw; go_simp <;> with_reducible rfl
      simp only [Act.put, List.setIfInBounds_toArray, List.set_cons_zero, List.set_cons_succ]
      refine wpAnyH_takeL (i := 4) (v := ?v4d) rfl (by kernel_rfl) (by kernel_rfl) (by kernel_rfl) (fun _ _ _ h => h) (by rfl) ?h4d (by assumption) ?_
      case h4d => intro w hSw; go_simp <;> with_reducible rfl
      simp only [Act.put, List.setIfInBounds_toArray, List.set_cons_zero, List.set_cons_succ]
      refine wpAnyH_takeL (i := 5) (v := ?v5d) rfl (by kernel_rfl) (by kernel_rfl) (by kernel_rfl) (fun _ _ _ h => h) (by rfl) ?h5d (by assumption) ?_
      case h5d => intro w hSw; go_simp <;> with_reducible rfl
      simp only [Act.put, List.setIfInBounds_toArray, List.set_cons_zero, List.set_cons_succ]
      refine allReadyH_oneL (i := 7) (by kernel_rfl) rfl (by rfl) (fun K hK => ?_)
      refine wp_store_R 24 _ _ rfl _ (C .u64 (wds D2)) rfl rfl q5 (ie4 _) (ze4 _) (C_allL _ _) ?_
      intro wz q5' hg hz
      replace q4 := q4.grown hg (by simp; omega)
      replace h3 := h3.grown hg (by simp; omega)
      replace hL := below_grown hL hg (by omega) q5.lt
      clear q5 q5' hg
      refine hK.out _ _ q4 (fun hHeld => ?_)
      clear hK K
      refine wpAnyH_takeL (i := 8) (v := ?v8d) rfl (by kernel_rfl) (by kernel_rfl) (by kernel_rfl) (fun _ _ _ h => h) (by rfl) ?h8d (by assumption) ?_
      case h8d => intro w hSw; go_simp <;> with_reducible rfl
      simp only [Act.put, List.setIfInBounds_toArray, List.set_cons_zero, List.set_cons_succ]
      refine wpAnyH_done (by kernel_rfl) ?_ _
      refine NoPanic.normal ?_
      go_wp2
      go_meet
      case rel => exact ⟨rfl, q4, h3, hL⟩
  case rest =>
    clear q4 h3 hL hsz
    obtain ⟨rfl, q4, h3, hL⟩ := hcut
    cases ov
    · have hlt : ¬ N < P := of_decide_eq_false HO.out
      have hE : D = 0 := by rw [← HD.out, if_neg hlt]
      go_wp2_with (first | refine wpList_build_Z rfl 24 rfl _ b4z ?_ | (refine wpList_store_R rfl 24 _ _ rfl _ (C .u64 (wds 0)) rfl rfl h3 (ie4 _) (ze4 _) (C_allL _ _) ?_; intro w7 q7 hg7 hz7))
      exact result_row2 Tryd.results27 (v := .bool false) rfl rfl q7 Tryd.underlying24 rfl (ie4 _) rfl ⟨by rw [hE], below_grown hL hg7 (by omega) h3.lt⟩
    · have hlt : N < P := of_decide_eq_true HO.out
      have hE : D = N := by rw [← HD.out, if_pos hlt]
      go_wp2_with (first | refine wpList_load_row rfl 24 _ rfl _ rfl _ _ _ _ q4 Tryd.underlying24 rfl (ie4 _) ?_ | (refine wpList_store_R rfl 24 _ _ rfl _ (C .u64 (wds N)) rfl rfl h3 (ie4 _) (ze4 _) (C_allL _ _) ?_; intro w7 q7 hg7 hz7))
      exact result_row2 Tryd.results27 (v := .bool true) rfl rfl q7 Tryd.underlying24 rfl (ie4 _) rfl ⟨by rw [hE], below_grown hL hg7 (by omega) h3.lt⟩
end Go.Proofs.YtgakpgcjninbgaaDoor.F
