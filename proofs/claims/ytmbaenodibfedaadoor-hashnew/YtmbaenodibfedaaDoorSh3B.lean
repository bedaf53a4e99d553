/-
  Contracts of the third hash's words, over this seat's translation. Conditions: each as it says.
-/
import Derived.Test.YtmbaenodibfedaaDoorSh3A
import Derived.Test.YtmbaenodibfedaaDoorKit7
import Derived.WalkSmall
namespace Go.Proofs.YtmbaenodibfedaaDoor.S3
open Go.RowKit
set_option linter.unusedVariables false

theorem z80w (w : World) : (zeroValue 111).run Tryd.prog w = .ok (.agg (C .u64 (Z 80)).toArray) w := by kernel_rfl
theorem z128 (w : World) : (zeroValue 92).run Tryd.prog w = .ok (.agg (C .u8 (Z 128)).toArray) w := by kernel_rfl
theorem z64 (w : World) : (zeroValue 47).run Tryd.prog w = .ok (.agg (C .u8 (Z 64)).toArray) w := by kernel_rfl
theorem z48 (w : World) : (zeroValue 45).run Tryd.prog w = .ok (.agg (C .u8 (Z 48)).toArray) w := by kernel_rfl
theorem z8 (w : World) : (zeroValue 69).run Tryd.prog w = .ok (.agg (C .u64 (Z 8)).toArray) w := by kernel_rfl
theorem b128 : Tryd.prog.built 92 [] = some (C .u8 (Z 128)).toArray := by kernel_rfl
theorem inf8 : (Tryd.prog.info? 5).map (fun i => (i.zero, i.size, i.bytes)) = some (some (.int .u8 0), 1, 1) := by kernel_rfl
theorem inf64 : (Tryd.prog.info? 37).map (fun i => (i.zero, i.size, i.bytes)) = some (some (.int .u64 0), 1, 8) := by kernel_rfl
theorem i80w : (Tryd.prog.info? 111).map (·.size) = some 80 := by kernel_rfl
theorem i128 : (Tryd.prog.info? 92).map (·.size) = some 128 := by kernel_rfl
theorem i64 : (Tryd.prog.info? 47).map (·.size) = some 64 := by kernel_rfl
theorem i48 : (Tryd.prog.info? 45).map (·.size) = some 48 := by kernel_rfl
theorem i8 : (Tryd.prog.info? 69).map (·.size) = some 8 := by kernel_rfl
theorem i1b : (Tryd.prog.info? 5).map (·.size) = some 1 := by kernel_rfl
theorem i1w : (Tryd.prog.info? 37).map (·.size) = some 1 := by kernel_rfl

/-- The words behind k bytes. -/
def acw (b : List Nat) : Nat → List Nat
  | 0 => Z 80
  | k + 1 => (acw b k).set (k / 8) (((acw b k).getD (k / 8) 0 * 256 % 18446744073709551616) ||| b.getD k 0)
theorem acw_length (b : List Nat) (k : Nat) : (acw b k).length = 80 := by
  induction k with
  | zero => simp [acw, Z]
  | succ k ih => simp [acw, ih]
theorem acw_lo {b : List Nat} (h : Lo 256 b) (k : Nat) : Lo 18446744073709551616 (acw b k) := by
  induction k with
  | zero => exact Z_lo (by decide) _
  | succ k ih =>
    refine ih.set _ _ (or_lt64 (mod_lt64 _) ?_)
    have := h.getD (by decide) k
    omega
theorem or8n {n x : Nat} (hx : x < 256) (hn : n < 72057594037927936) : (n * 256 % 18446744073709551616) ||| x = n * 256 + x := by
  rw [Nat.mod_eq_of_lt (by omega), Nat.mul_comm, ← Nat.two_pow_add_eq_or_of_lt (i := 8) hx n]
theorem acw_eight {b : List Nat} (h : Lo 256 b) (t : Nat) (ht : t ≤ 16) : acw b (8 * t) = sch3 b t ++ List.replicate (80 - t) 0 := by
  induction t with
  | zero => simp [acw, sch3, Z]
  | succ t ih =>
    have ih := ih (by omega)
    have h0 := h.getD (by decide) (8 * t)
    have h1 := h.getD (by decide) (8 * t + 1)
    have h2 := h.getD (by decide) (8 * t + 2)
    have h3 := h.getD (by decide) (8 * t + 3)
    have h4 := h.getD (by decide) (8 * t + 4)
    have h5 := h.getD (by decide) (8 * t + 5)
    have h6 := h.getD (by decide) (8 * t + 6)
    have h7 := h.getD (by decide) (8 * t + 7)
    have hl := sch3_length b t
    obtain ⟨n, hn⟩ : ∃ n, 80 - t = n + 1 := ⟨79 - t, by omega⟩
    rw [hn, List.replicate_succ] at ih
    have e0 : 8 * t / 8 = t := by omega
    have e1 : (8 * t + 1) / 8 = t := by omega
    have e2 : (8 * t + 2) / 8 = t := by omega
    have e3 : (8 * t + 3) / 8 = t := by omega
    have e4 : (8 * t + 4) / 8 = t := by omega
    have e5 : (8 * t + 5) / 8 = t := by omega
    have e6 : (8 * t + 6) / 8 = t := by omega
    have e7 : (8 * t + 7) / 8 = t := by omega
    have g : ∀ y, (sch3 b t ++ (y :: List.replicate n 0)).getD t 0 = y := fun y => by have := getD_at (sch3 b t) (List.replicate n 0) y; rwa [hl] at this
    have s : ∀ x y, (sch3 b t ++ (y :: List.replicate n 0)).set t x = sch3 b t ++ (x :: List.replicate n 0) := fun x y => by have := set_at (sch3 b t) n x y; rwa [hl] at this
    have a1 : acw b (8 * t + 1) = sch3 b t ++ ((b.getD (8 * t) 0) :: List.replicate n 0) := by
      rw [acw, ih, e0, g, s, or8n h0 (by decide)]; simp
    have a2 : acw b (8 * t + 2) = sch3 b t ++ ((b.getD (8 * t) 0 * 256 + b.getD (8 * t + 1) 0) :: List.replicate n 0) := by
      rw [acw, a1, e1, g, s, or8n h1 (by omega)]
    have a3 : acw b (8 * t + 3) = sch3 b t ++ (((b.getD (8 * t) 0 * 256 + b.getD (8 * t + 1) 0) * 256 + b.getD (8 * t + 2) 0) :: List.replicate n 0) := by
      rw [acw, a2, e2, g, s, or8n h2 (by omega)]
    have a4 : acw b (8 * t + 4) = sch3 b t ++ ((((b.getD (8 * t) 0 * 256 + b.getD (8 * t + 1) 0) * 256 + b.getD (8 * t + 2) 0) * 256 + b.getD (8 * t + 3) 0) :: List.replicate n 0) := by
      rw [acw, a3, e3, g, s, or8n h3 (by omega)]
    have a5 : acw b (8 * t + 5) = sch3 b t ++ (((((b.getD (8 * t) 0 * 256 + b.getD (8 * t + 1) 0) * 256 + b.getD (8 * t + 2) 0) * 256 + b.getD (8 * t + 3) 0) * 256 + b.getD (8 * t + 4) 0) :: List.replicate n 0) := by
      rw [acw, a4, e4, g, s, or8n h4 (by omega)]
    have a6 : acw b (8 * t + 6) = sch3 b t ++ ((((((b.getD (8 * t) 0 * 256 + b.getD (8 * t + 1) 0) * 256 + b.getD (8 * t + 2) 0) * 256 + b.getD (8 * t + 3) 0) * 256 + b.getD (8 * t + 4) 0) * 256 + b.getD (8 * t + 5) 0) :: List.replicate n 0) := by
      rw [acw, a5, e5, g, s, or8n h5 (by omega)]
    have a7 : acw b (8 * t + 7) = sch3 b t ++ (((((((b.getD (8 * t) 0 * 256 + b.getD (8 * t + 1) 0) * 256 + b.getD (8 * t + 2) 0) * 256 + b.getD (8 * t + 3) 0) * 256 + b.getD (8 * t + 4) 0) * 256 + b.getD (8 * t + 5) 0) * 256 + b.getD (8 * t + 6) 0) :: List.replicate n 0) := by
      rw [acw, a6, e6, g, s, or8n h6 (by omega)]
    have a8 : acw b (8 * t + 8) = sch3 b t ++ ((((((((b.getD (8 * t) 0 * 256 + b.getD (8 * t + 1) 0) * 256 + b.getD (8 * t + 2) 0) * 256 + b.getD (8 * t + 3) 0) * 256 + b.getD (8 * t + 4) 0) * 256 + b.getD (8 * t + 5) 0) * 256 + b.getD (8 * t + 6) 0) * 256 + b.getD (8 * t + 7) 0) :: List.replicate n 0) := by
      rw [acw, a7, e7, g, s, or8n h7 (by omega)]
    rw [show 8 * (t + 1) = 8 * t + 8 by omega, a8, sch3, if_pos (by omega), show 80 - (t + 1) = n by omega]
    have ew : ((((((b.getD (8 * t) 0 * 256 + b.getD (8 * t + 1) 0) * 256 + b.getD (8 * t + 2) 0) * 256 + b.getD (8 * t + 3) 0) * 256 + b.getD (8 * t + 4) 0) * 256 + b.getD (8 * t + 5) 0) * 256 + b.getD (8 * t + 6) 0) * 256 + b.getD (8 * t + 7) 0 = wd8 b t := by unfold wd8; omega
    rw [ew]
    simp only [List.append_assoc, List.singleton_append]
theorem words_any (b : List Nat) (hb : Lo 256 b) (hl : b.length = 128) (w : World) :
    Calls Tryd.prog 71 #[.agg (C .u8 b).toArray] w fun e w' => e = .returned (.agg (C .u64 (sch3 b 80)).toArray) ∧ Below w.heap.size w w' := by
  have hA := Row.new w 92 (C .u8 b)
  have hA3 := (hA.alloc (.cells (C .u64 (Z 80)).toArray 111)).alloc (.cells (C .u64 (Z 80)).toArray 111)
  go_enter Tryd.func71, Tryd.ntmps71
  go_upto_region 2 with (refine wpList_alloc_row rfl 111 rfl _ z80w ?_)
  have hR2 := (Row.newAt (w.alloc (.cells (C .u8 b).toArray 92)) (w.heap.size + 1) (by simp) 111 (C .u64 (Z 80))).alloc (.cells (C .u64 (Z 80)).toArray 111)
  have hR3 := Row.newAt ((w.alloc (.cells (C .u8 b).toArray 92)).alloc (.cells (C .u64 (Z 80)).toArray 111)) (w.heap.size + 1 + 1) (by simp) 111 (C .u64 (Z 80))
  have hB0 := Below.more (Below.refl w.heap.size w) (Nat.le_refl _) (.cells (C .u8 b).toArray 92)
  have hB1 := Below.more hB0.1 hB0.2 (.cells (C .u64 (Z 80)).toArray 111)
  have hB := (Below.more hB1.1 hB1.2 (.cells (C .u64 (Z 80)).toArray 111)).1
  clear hB0 hB1
  clear hA
  generalize ((w.alloc (.cells (C .u8 b).toArray 92)).alloc (.cells (C .u64 (Z 80)).toArray 111)).alloc (.cells (C .u64 (Z 80)).toArray 111) = w3 at *
  have hl128 : (Tryd.prog.info? 92).map (·.size) = some (C .u8 b).toArray.size := by rw [C_size, hl]; exact i128
  simp only [Act.put, List.setIfInBounds_toArray, List.set_cons_zero, List.set_cons_succ, alloc_size]
  go_wp2_with (refine wpList_load_row rfl 92 _ rfl _ rfl _ _ _ _ hA3 Tryd.underlying92 rfl hl128 ?_)
  clear hA3 hl128
  go_loopw [8] (fun i wr => ∃ k : Nat, k ≤ 128 ∧ i = .int .i64 k ∧ Row wr (w.heap.size + 1) 111 (C .u64 (Z 80)) ∧ Row wr (w.heap.size + 1 + 1) 111 (C .u64 (acw b k)) ∧ Below w.heap.size w wr) (fun i _ => 128 - (intOf i).toNat)
  case atStart => exact ⟨0, Nat.zero_le _, rfl, hR2, hR3, hB⟩
  case round =>
    clear hR2 hR3 hB
    obtain ⟨k, hk, rfl, hR2, hR3, hB⟩ := hrel
    by_cases hlt : k < 128
    · have hix := fun w => run_index_C (P := Tryd.prog) w (q := .u8) Tryd.underlying92 (by kernel_rfl) i1b b k hlt hl
      obtain ⟨q, hq⟩ : ∃ q, k / 8 = q := ⟨_, rfl⟩
      have hc := hR3.cell q
      rw [C_get .u64 (by rw [acw_length]; omega)] at hc
      have hf := hR3.frozen q
      have hx := hb.getD (by decide) k
      have hy := (acw_lo hb k).getD (by decide) q
      have HS : Away (acw b (k + 1) = (acw b k).set q (((acw b k).getD q 0 * 256 % 18446744073709551616) ||| b.getD k 0)) := ⟨by rw [← hq]; rfl⟩
      generalize b.getD k 0 = x at *
      generalize (acw b k).getD q 0 = y at *
      have dq : (k : Int).tdiv 8 = (q : Int) := by rw [Int.tdiv_eq_ediv_of_nonneg (by omega)]; omega
      have dq' : (k : Int) / 8 = (q : Int) := by omega
      have bq : (q : Int) < 80 := by omega
      have wq : IntKind.i64.wrap (q : Int) = (q : Int) := by rw [IntWalk.i64_in _ ⟨by omega, by omega⟩]
      have bk : (k : Int) < 128 := by omega
      have w8 : IntKind.u64.wrap (x : Int) = (x : Int) := by rw [IntKind.wrap_u64]; omega
      obtain ⟨p, hp, hpl⟩ : ∃ p : Nat, IntKind.u64.wrap ((y : Int) * 256) = (p : Int) ∧ p = y * 256 % 18446744073709551616 := ⟨y * 256 % 18446744073709551616, by rw [IntKind.wrap_u64]; simp, rfl⟩
      have ho := u64_or_nat p x (by rw [hpl]; exact mod_lt64 _) (by omega)
      rw [← hpl] at HS
      generalize p ||| x = z at *
      clear hq hpl hy hx
      go_wp2
      have G1 := Away.mk (hR2.other (i := q) (.int .u64 (z : Int)) (show w.heap.size + 1 ≠ w.heap.size + 1 + 1 by omega))
      have G2 := Away.mk (hR3.set q (.int .u64 (z : Int)))
      rw [← C_set, ← HS.out] at G2
      have G3 := Away.mk (hB.setCell (p := ⟨w.heap.size + 1 + 1, q, none⟩) (by simp; omega) (.int .u64 (z : Int)))
      go_roundw
      case rel => exact ⟨k + 1, by omega, by go_num, G1.out, G2.out, G3.out⟩
      case measure => simp [intOf]; omega
    · have HK : Away (k = 128) := ⟨by omega⟩
      have hR3 : Row wr (w.heap.size + 1 + 1) 111 (C .u64 (sch3 b 16 ++ List.replicate (80 - 16) 0)) := by rw [← acw_eight hb 16 (Nat.le_refl _)]; rw [HK.out] at hR3; exact hR3
      have HR3 := Away.mk hR3
      have dk : decide ((k : Int) < 128) = false := decide_eq_false (by omega)
      clear hR3 hlt hk
      go_wp2
      go_loopw [6] (fun i wr => ∃ t : Nat, 16 ≤ t ∧ t ≤ 80 ∧ i = .int .i64 t ∧ Row wr (w.heap.size + 1) 111 (C .u64 (Z 80)) ∧ Row wr (w.heap.size + 1 + 1) 111 (C .u64 (sch3 b t ++ List.replicate (80 - t) 0)) ∧ Below w.heap.size w wr) (fun i _ => 80 - (intOf i).toNat)
      case atStart => exact ⟨16, Nat.le_refl _, by decide, rfl, hR2, HR3.out, hB⟩
      case round =>
        clear hR2 HR3 hB
        obtain ⟨t, ht, ht', rfl, hR2, hR3, hB⟩ := hrel
        by_cases hlt2 : t < 80
        · have hlS := sch3_length b t
          have hg : ∀ j, 1 ≤ j → j ≤ 16 → wr.cell? ⟨w.heap.size + 1 + 1, t - j, none⟩ = some (.int .u64 ((sch3 b t).getD (t - j) 0 : Nat)) := by
            intro j h1 h16
            rw [hR3.cell, C_get .u64 (by simp [hlS]; omega)]
            simp only [List.getD, List.getElem?_append_left (show t - j < (sch3 b t).length by omega)]
          have c2 := hg 2 (by decide) (by decide)
          have c7 := hg 7 (by decide) (by decide)
          have c15 := hg 15 (by decide) (by decide)
          have c16 := hg 16 (by decide) (by decide)
          have hf := hR3.frozen t
          have hct : ∃ u, wr.cell? ⟨w.heap.size + 1 + 1, t, none⟩ = some u := by
            rw [hR3.cell, C_get .u64 (by simp [hlS]; omega)]; exact ⟨_, rfl⟩
          obtain ⟨u, hct⟩ := hct
          have hlo := (sch3_lo hb t).getD (by decide)
          have l2 := hlo (t - 2)
          have l7 := hlo (t - 7)
          have l15 := hlo (t - 15)
          have l16 := hlo (t - 16)
          have HN : Away (nxt3 (sch3 b t) t = (spr 19 61 6 ((sch3 b t).getD (t - 2) 0) + (sch3 b t).getD (t - 7) 0 + spr 1 8 7 ((sch3 b t).getD (t - 15) 0) + (sch3 b t).getD (t - 16) 0) % 18446744073709551616) := ⟨rfl⟩
          clear hg hlo
          generalize (sch3 b t).getD (t - 2) 0 = x2 at *
          generalize (sch3 b t).getD (t - 7) 0 = x7 at *
          generalize (sch3 b t).getD (t - 15) 0 = x15 at *
          generalize (sch3 b t).getD (t - 16) 0 = x16 at *
          have p2 := spread_any x2 19 61 6 l2 (by decide) (by decide) (by decide) (by decide) (by decide) (by decide)
          have p15 := spread_any x15 1 8 7 l15 (by decide) (by decide) (by decide) (by decide) (by decide) (by decide)
          have y2l := spr_lt l2 19 61 6
          have y15l := spr_lt l15 1 8 7
          generalize spr 19 61 6 x2 = y2 at *
          generalize spr 1 8 7 x15 = y15 at *
          obtain ⟨z, hz⟩ : ∃ z, (y2 + x7 + y15 + x16) % 18446744073709551616 = z := ⟨_, rfl⟩
          rw [hz] at HN
          obtain ⟨s1, e1, s2, e2, e3⟩ : ∃ s1 : Nat, IntKind.u64.wrap ((y2 : Int) + (x7 : Int)) = (s1 : Int) ∧ ∃ s2 : Nat, IntKind.u64.wrap ((s1 : Int) + (y15 : Int)) = (s2 : Int) ∧ IntKind.u64.wrap ((s2 : Int) + (x16 : Int)) = (z : Int) :=
            ⟨(y2 + x7) % 18446744073709551616, by rw [IntKind.wrap_u64]; omega, ((y2 + x7) % 18446744073709551616 + y15) % 18446744073709551616, by rw [IntKind.wrap_u64]; omega, by rw [IntKind.wrap_u64]; omega⟩
          clear hz
          obtain ⟨n2, f2, ⟨b2, a2⟩, d2⟩ : ∃ n : Nat, t - 2 = n ∧ ((n : Int) < 80 ∧ (n : Int) < (t : Int)) ∧ IntKind.i64.wrap ((t : Int) - 2) = (n : Int) := ⟨t - 2, rfl, ⟨by omega, by omega⟩, by rw [IntWalk.i64_in _ ⟨by omega, by omega⟩]; omega⟩
          obtain ⟨n7, f7, ⟨b7, a7⟩, d7⟩ : ∃ n : Nat, t - 7 = n ∧ ((n : Int) < 80 ∧ (n : Int) < (t : Int)) ∧ IntKind.i64.wrap ((t : Int) - 7) = (n : Int) := ⟨t - 7, rfl, ⟨by omega, by omega⟩, by rw [IntWalk.i64_in _ ⟨by omega, by omega⟩]; omega⟩
          obtain ⟨n15, f15, ⟨b15, a15⟩, d15⟩ : ∃ n : Nat, t - 15 = n ∧ ((n : Int) < 80 ∧ (n : Int) < (t : Int)) ∧ IntKind.i64.wrap ((t : Int) - 15) = (n : Int) := ⟨t - 15, rfl, ⟨by omega, by omega⟩, by rw [IntWalk.i64_in _ ⟨by omega, by omega⟩]; omega⟩
          obtain ⟨n16, f16, ⟨b16, a16⟩, d16⟩ : ∃ n : Nat, t - 16 = n ∧ ((n : Int) < 80 ∧ (n : Int) < (t : Int)) ∧ IntKind.i64.wrap ((t : Int) - 16) = (n : Int) := ⟨t - 16, rfl, ⟨by omega, by omega⟩, by rw [IntWalk.i64_in _ ⟨by omega, by omega⟩]; omega⟩
          have bt : (t : Int) < 80 := by omega
          rw [f2] at c2; rw [f7] at c7; rw [f15] at c15; rw [f16] at c16
          clear f2 l2 f7 l7 f15 l15 f16 l16
          go_wp2
          go_region_held3 (fun w' => w'.cell? ⟨w.heap.size + 1 + 1, n2, none⟩ = some (.int .u64 (x2 : Int)) ∧ w'.cell? ⟨w.heap.size + 1 + 1, n7, none⟩ = some (.int .u64 (x7 : Int)) ∧ w'.cell? ⟨w.heap.size + 1 + 1, n15, none⟩ = some (.int .u64 (x15 : Int)) ∧ w'.cell? ⟨w.heap.size + 1 + 1, n16, none⟩ = some (.int .u64 (x16 : Int)))
            (first | exact ⟨c2, c7, c15, c16⟩ | exact ⟨cell_set_ne c2 (by omega), cell_set_ne c7 (by omega), cell_set_ne c15 (by omega), cell_set_ne c16 (by omega)⟩)
            (first | (go_at_call_of 76 x2; refine (p2 _).mono ?_; rintro e w' ⟨rfl, m1, rfl⟩) | (go_at_call_of 76 x15; refine (p15 _).mono ?_; rintro e w' ⟨rfl, m2, rfl⟩))
          generalize 1 + m1 + m2 = mm at *
          have hR3 : Row (wr.drewN mm) (w.heap.size + 1 + 1) 111 (C .u64 (sch3 b t ++ List.replicate (80 - t) 0)) := hR3
          have hR2 : Row (wr.drewN mm) (w.heap.size + 1) 111 (C .u64 (Z 80)) := hR2
          have hRn : Row ((wr.drewN mm).setCell ⟨w.heap.size + 1 + 1, t, none⟩ (.int .u64 (z : Int))) (w.heap.size + 1 + 1) 111 (C .u64 (sch3 b (t + 1) ++ List.replicate (80 - (t + 1)) 0)) := by
            have := hR3.set t (.int .u64 (z : Nat))
            rw [← C_set] at this
            have e : (sch3 b t ++ List.replicate (80 - t) 0).set t z = sch3 b (t + 1) ++ List.replicate (80 - (t + 1)) 0 := by
              obtain ⟨n, hn⟩ : ∃ n, 80 - t = n + 1 := ⟨79 - t, by omega⟩
              rw [hn, List.replicate_succ, show 80 - (t + 1) = n by omega, sch3, if_neg (by omega), HN.out]
              have := set_at (sch3 b t) n z 0
              rw [hlS] at this
              rw [this]; simp
            rwa [e] at this
          have hR2n := hR2.other (i := t) (.int .u64 (z : Int)) (show w.heap.size + 1 ≠ w.heap.size + 1 + 1 by omega)
          have hBn := (below_drewN hB mm).setCell (p := ⟨w.heap.size + 1 + 1, t, none⟩) (by simp; omega) (.int .u64 (z : Int))
          clear hR2 hR3 hB HN c2 c7 c15 c16 d2 d7 d15 d16 e1 e2 e3 p2 p15
          generalize (wr.drewN mm).setCell ⟨w.heap.size + 1 + 1, t, none⟩ (.int .u64 (z : Int)) = wn at *
          go_wp2
          go_roundw
          case rel => exact ⟨t + 1, by omega, by omega, by go_num, hR2n, hRn, hBn⟩
          case measure => simp [intOf]; omega
        · obtain rfl : t = 80 := by omega
          simp only [Nat.sub_self, List.replicate_zero, List.append_nil] at hR3
          have hS := sch3_length b 80
          generalize hSe : sch3 b 80 = S at *
          have HS : Away (sch3 b 80 = S) := ⟨hSe⟩
          clear hSe
          have hs64 : (C .u64 S).toArray.size = 80 := by rw [C_size, hS]
          have hi64w : (Tryd.prog.info? 111).map (·.size) = some (C .u64 S).toArray.size := by rw [hs64]; exact i80w
          have ho64 : (C .u64 (Z 80)).toArray.size = (C .u64 S).toArray.size := by rw [hs64, C_size, Z_length]
          have hl64 : (Tryd.prog.info? 111).map (·.size) = some (C .u64 S).length := by rw [C_length, hS]; exact i80w
          have hB' := below_setRow hB (g := w.heap.size + 1) (by omega) (C .u64 S).toArray
          go_wp2_with (first | refine wpList_load_row rfl 111 _ rfl _ rfl _ _ _ _ hR3 Tryd.underlying111 rfl hi64w ?_ | refine wpList_store_row rfl 111 _ _ rfl _ _ rfl rfl _ _ hR2 hi64w ho64 (C_all _ _) ?_ | ((with_reducible refine result_row (g := w.heap.size + 1) (us := C .u64 S) Tryd.results71 ?_ (hR2.setRow _) Tryd.underlying111 ?_ hl64 ?_ ⟨by rw [HS.out], hB'⟩) <;> rfl))
end Go.Proofs.YtmbaenodibfedaaDoor.S3
