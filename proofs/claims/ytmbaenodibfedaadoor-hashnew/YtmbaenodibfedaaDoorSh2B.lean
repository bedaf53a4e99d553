/-
  Contracts of the second hash's words, over this seat's translation. Conditions: each as it says.
-/
import Derived.Test.YtmbaenodibfedaaDoorSh2A
import Derived.Test.YtmbaenodibfedaaDoorKit7
import Derived.WalkSmall
namespace Go.Proofs.YtmbaenodibfedaaDoor.S2
open Go.RowKit
open S1 (or_lt32 and_lt32 xor_lt32 shr_lt32 mod_lt32 wd wd_lt be be8 zs1 pad1 out4 not32)
set_option linter.unusedVariables false

theorem z64w (w : World) : (zeroValue 108).run Tryd.prog w = .ok (.agg (C .u32 (Z 64)).toArray) w := by kernel_rfl
theorem z64 (w : World) : (zeroValue 47).run Tryd.prog w = .ok (.agg (C .u8 (Z 64)).toArray) w := by kernel_rfl
theorem z32 (w : World) : (zeroValue 43).run Tryd.prog w = .ok (.agg (C .u8 (Z 32)).toArray) w := by kernel_rfl
theorem z28 (w : World) : (zeroValue 49).run Tryd.prog w = .ok (.agg (C .u8 (Z 28)).toArray) w := by kernel_rfl
theorem z8 (w : World) : (zeroValue 65).run Tryd.prog w = .ok (.agg (C .u32 (Z 8)).toArray) w := by kernel_rfl
theorem b64 : Tryd.prog.built 47 [] = some (C .u8 (Z 64)).toArray := by kernel_rfl
theorem inf8 : (Tryd.prog.info? 5).map (fun i => (i.zero, i.size, i.bytes)) = some (some (.int .u8 0), 1, 1) := by kernel_rfl
theorem inf32 : (Tryd.prog.info? 58).map (fun i => (i.zero, i.size, i.bytes)) = some (some (.int .u32 0), 1, 4) := by kernel_rfl
theorem i64w : (Tryd.prog.info? 108).map (·.size) = some 64 := by kernel_rfl
theorem i64 : (Tryd.prog.info? 47).map (·.size) = some 64 := by kernel_rfl
theorem i32 : (Tryd.prog.info? 43).map (·.size) = some 32 := by kernel_rfl
theorem i28 : (Tryd.prog.info? 49).map (·.size) = some 28 := by kernel_rfl
theorem i8 : (Tryd.prog.info? 65).map (·.size) = some 8 := by kernel_rfl
theorem i1b : (Tryd.prog.info? 5).map (·.size) = some 1 := by kernel_rfl
theorem i1w : (Tryd.prog.info? 58).map (·.size) = some 1 := by kernel_rfl

/-- The words behind k bytes. -/
def acw (b : List Nat) : Nat → List Nat
  | 0 => Z 64
  | k + 1 => (acw b k).set (k / 4) (((acw b k).getD (k / 4) 0 * 256 % 4294967296) ||| b.getD k 0)
theorem acw_length (b : List Nat) (k : Nat) : (acw b k).length = 64 := by
  induction k with
  | zero => simp [acw, Z]
  | succ k ih => simp [acw, ih]
theorem acw_lo {b : List Nat} (h : Lo 256 b) (k : Nat) : Lo 4294967296 (acw b k) := by
  induction k with
  | zero => exact Z_lo (by decide) _
  | succ k ih =>
    refine ih.set _ _ (or_lt32 (mod_lt32 _) ?_)
    have := h.getD (by decide) k
    omega
theorem or8n {n x : Nat} (hx : x < 256) (hn : n < 16777216) : (n * 256 % 4294967296) ||| x = n * 256 + x := by
  rw [Nat.mod_eq_of_lt (by omega), Nat.mul_comm, ← Nat.two_pow_add_eq_or_of_lt (i := 8) hx n]
theorem acw_four {b : List Nat} (h : Lo 256 b) (t : Nat) (ht : t ≤ 16) : acw b (4 * t) = sch2 b t ++ List.replicate (64 - t) 0 := by
  induction t with
  | zero => simp [acw, sch2, Z]
  | succ t ih =>
    have ih := ih (by omega)
    have h0 := h.getD (by decide) (4 * t)
    have h1 := h.getD (by decide) (4 * t + 1)
    have h2 := h.getD (by decide) (4 * t + 2)
    have h3 := h.getD (by decide) (4 * t + 3)
    have hl := sch2_length b t
    obtain ⟨n, hn⟩ : ∃ n, 64 - t = n + 1 := ⟨63 - t, by omega⟩
    rw [hn, List.replicate_succ] at ih
    have e0 : 4 * t / 4 = t := by omega
    have e1 : (4 * t + 1) / 4 = t := by omega
    have e2 : (4 * t + 2) / 4 = t := by omega
    have e3 : (4 * t + 3) / 4 = t := by omega
    have g : ∀ y, (sch2 b t ++ (y :: List.replicate n 0)).getD t 0 = y := fun y => by have := getD_at (sch2 b t) (List.replicate n 0) y; rwa [hl] at this
    have s : ∀ x y, (sch2 b t ++ (y :: List.replicate n 0)).set t x = sch2 b t ++ (x :: List.replicate n 0) := fun x y => by have := set_at (sch2 b t) n x y; rwa [hl] at this
    have a1 : acw b (4 * t + 1) = sch2 b t ++ (b.getD (4 * t) 0 :: List.replicate n 0) := by
      rw [acw, ih, e0, g, s, or8n h0 (by decide)]; simp
    have a2 : acw b (4 * t + 2) = sch2 b t ++ ((b.getD (4 * t) 0 * 256 + b.getD (4 * t + 1) 0) :: List.replicate n 0) := by
      rw [acw, a1, e1, g, s, or8n h1 (by omega)]
    have a3 : acw b (4 * t + 3) = sch2 b t ++ (((b.getD (4 * t) 0 * 256 + b.getD (4 * t + 1) 0) * 256 + b.getD (4 * t + 2) 0) :: List.replicate n 0) := by
      rw [acw, a2, e2, g, s, or8n h2 (by omega)]
    have a4 : acw b (4 * t + 4) = sch2 b t ++ ((((b.getD (4 * t) 0 * 256 + b.getD (4 * t + 1) 0) * 256 + b.getD (4 * t + 2) 0) * 256 + b.getD (4 * t + 3) 0) :: List.replicate n 0) := by
      rw [acw, a3, e3, g, s, or8n h3 (by omega)]
    rw [show 4 * (t + 1) = 4 * t + 4 by omega, a4, sch2, if_pos (by omega), show 64 - (t + 1) = n by omega]
    have ew : ((b.getD (4 * t) 0 * 256 + b.getD (4 * t + 1) 0) * 256 + b.getD (4 * t + 2) 0) * 256 + b.getD (4 * t + 3) 0 = wd b t := by unfold wd; omega
    rw [ew]
    simp only [List.append_assoc, List.singleton_append]
theorem words_any (b : List Nat) (hb : Lo 256 b) (hl : b.length = 64) (w : World) :
    Calls Tryd.prog 69 #[.agg (C .u8 b).toArray] w fun e w' => e = .returned (.agg (C .u32 (sch2 b 64)).toArray) ∧ Below w.heap.size w w' := by
  have hA := Row.new w 47 (C .u8 b)
  have hA3 := (hA.alloc (.cells (C .u32 (Z 64)).toArray 108)).alloc (.cells (C .u32 (Z 64)).toArray 108)
  go_enter Tryd.func69, Tryd.ntmps69
  go_wp2_with (refine wpList_alloc_row rfl 108 rfl _ z64w ?_)
  have hR2 := (Row.newAt (w.alloc (.cells (C .u8 b).toArray 47)) (w.heap.size + 1) (by simp) 108 (C .u32 (Z 64))).alloc (.cells (C .u32 (Z 64)).toArray 108)
  have hR3 := Row.newAt ((w.alloc (.cells (C .u8 b).toArray 47)).alloc (.cells (C .u32 (Z 64)).toArray 108)) (w.heap.size + 1 + 1) (by simp) 108 (C .u32 (Z 64))
  have hB0 := Below.more (Below.refl w.heap.size w) (Nat.le_refl _) (.cells (C .u8 b).toArray 47)
  have hB1 := Below.more hB0.1 hB0.2 (.cells (C .u32 (Z 64)).toArray 108)
  have hB := (Below.more hB1.1 hB1.2 (.cells (C .u32 (Z 64)).toArray 108)).1
  clear hB0 hB1
  clear hA
  generalize ((w.alloc (.cells (C .u8 b).toArray 47)).alloc (.cells (C .u32 (Z 64)).toArray 108)).alloc (.cells (C .u32 (Z 64)).toArray 108) = w3 at *
  go_loopw [6] (fun i wr => ∃ k : Nat, k ≤ 64 ∧ i = .int .i64 k ∧ Row wr w.heap.size 47 (C .u8 b) ∧ Row wr (w.heap.size + 1) 108 (C .u32 (Z 64)) ∧ Row wr (w.heap.size + 1 + 1) 108 (C .u32 (acw b k)) ∧ Below w.heap.size w wr) (fun i _ => 64 - (intOf i).toNat)
  case atStart => exact ⟨0, Nat.zero_le _, rfl, hA3, hR2, hR3, hB⟩
  case round =>
    clear hA3 hR2 hR3 hB
    obtain ⟨k, hk, rfl, hA3, hR2, hR3, hB⟩ := hrel
    by_cases hlt : k < 64
    · obtain ⟨q, hq⟩ : ∃ q, k / 4 = q := ⟨_, rfl⟩
      have hc := hR3.cell q
      rw [C_get .u32 (by rw [acw_length]; omega)] at hc
      have hf := hR3.frozen q
      have hbx := hA3.cell k
      rw [C_get .u8 (show k < b.length by omega)] at hbx
      have hx := hb.getD (by decide) k
      have hy := (acw_lo hb k).getD (by decide) q
      have HS : Away (acw b (k + 1) = (acw b k).set q (((acw b k).getD q 0 * 256 % 4294967296) ||| b.getD k 0)) := ⟨by rw [← hq]; rfl⟩
      generalize b.getD k 0 = x at *
      generalize (acw b k).getD q 0 = y at *
      have dq : (k : Int).tdiv 4 = (q : Int) := by rw [Int.tdiv_eq_ediv_of_nonneg (by omega)]; omega
      have bq : (q : Int) < 64 := by omega
      have wq : IntKind.i64.wrap (q : Int) = (q : Int) := by rw [IntWalk.i64_in _ ⟨by omega, by omega⟩]
      have bk : (k : Int) < 64 := by omega
      have w8 : IntKind.u32.wrap (x : Int) = (x : Int) := by rw [IntKind.wrap_u32']; omega
      obtain ⟨p, hp, hpl⟩ : ∃ p : Nat, IntKind.u32.wrap ((y : Int) * 256) = (p : Int) ∧ p = y * 256 % 4294967296 := ⟨y * 256 % 4294967296, by rw [IntKind.wrap_u32']; simp, rfl⟩
      have ho := u32_or_nat p x (by rw [hpl]; exact mod_lt32 _) (by omega)
      rw [← hpl] at HS
      generalize p ||| x = z at *
      clear hq hpl hy hx
      go_upto_region 5 with fail
      refine wp_region_noPanic ?_
      refine wp_region_U (S := fun w' => w'.cell? ⟨w.heap.size + 1 + 1, q, none⟩ = some (.int .u32 (y : Int)) ∧ w'.cell? ⟨w.heap.size, k, none⟩ = some (.int .u8 (x : Int))) 13 (by kernel_rfl) (⟨hc, hbx⟩) (fun hHeld => ?_)
      refine wpAnyU_takeL (i := 0) (v := ?v0) rfl (by kernel_rfl) (by kernel_rfl) (by kernel_rfl) (by kernel_rfl) (fun _ _ _ h => h) (by rfl) ?h0 (by assumption) ?_
      case h0 => intro w hSw; go_simp <;> with_reducible rfl
      simp only [Act.put, List.setIfInBounds_toArray, List.set_cons_zero, List.set_cons_succ]
      refine wpAnyU_takeL (i := 1) (v := ?v1) rfl (by kernel_rfl) (by kernel_rfl) (by kernel_rfl) (by kernel_rfl) (fun _ _ _ h => h) (by rfl) ?h1 (by assumption) ?_
      case h1 => intro w hSw; go_simp <;> with_reducible rfl
      simp only [Act.put, List.setIfInBounds_toArray, List.set_cons_zero, List.set_cons_succ]
      refine wpAnyU_takeL (i := 2) (v := ?v2) rfl (by kernel_rfl) (by kernel_rfl) (by kernel_rfl) (by kernel_rfl) (fun _ _ _ h => h) (by rfl) ?h2 (by assumption) ?_
      case h2 => intro w hSw; go_simp <;> with_reducible rfl
      simp only [Act.put, List.setIfInBounds_toArray, List.set_cons_zero, List.set_cons_succ]
      refine wpAnyU_takeL (i := 3) (v := ?v3) rfl (by kernel_rfl) (by kernel_rfl) (by kernel_rfl) (by kernel_rfl) (fun _ _ _ h => h) (by rfl) ?h3 (by assumption) ?_
      case h3 => intro w hSw; go_simp <;> with_reducible rfl
      simp only [Act.put, List.setIfInBounds_toArray, List.set_cons_zero, List.set_cons_succ]
      refine wpAnyU_takeL (i := 4) (v := ?v4) rfl (by kernel_rfl) (by kernel_rfl) (by kernel_rfl) (by kernel_rfl) (fun _ _ _ h => h) (by rfl) ?h4 (by assumption) ?_
      case h4 => intro w hSw; go_simp <;> with_reducible rfl
      simp only [Act.put, List.setIfInBounds_toArray, List.set_cons_zero, List.set_cons_succ]
      refine wpAnyU_takeL (i := 5) (v := ?v5) rfl (by kernel_rfl) (by kernel_rfl) (by kernel_rfl) (by kernel_rfl) (fun _ _ _ h => h) (by rfl) ?h5 (by assumption) ?_
      case h5 => intro w hSw; go_simp <;> with_reducible rfl
      simp only [Act.put, List.setIfInBounds_toArray, List.set_cons_zero, List.set_cons_succ]
      refine wpAnyU_takeL (i := 6) (v := ?v6) rfl (by kernel_rfl) (by kernel_rfl) (by kernel_rfl) (by kernel_rfl) (fun _ _ _ h => h) (by rfl) ?h6 (by assumption) ?_
      case h6 => intro w hSw; go_simp <;> with_reducible rfl
      simp only [Act.put, List.setIfInBounds_toArray, List.set_cons_zero, List.set_cons_succ]
      refine wpAnyU_takeL (i := 7) (v := ?v7) rfl (by kernel_rfl) (by kernel_rfl) (by kernel_rfl) (by kernel_rfl) (fun _ _ _ h => h) (by rfl) ?h7 (by assumption) ?_
      case h7 => intro w hSw; go_simp <;> with_reducible rfl
      simp only [Act.put, List.setIfInBounds_toArray, List.set_cons_zero, List.set_cons_succ]
      refine wpAnyU_takeL (i := 8) (v := ?v8) rfl (by kernel_rfl) (by kernel_rfl) (by kernel_rfl) (by kernel_rfl) (fun _ _ _ h => h) (by rfl) ?h8 (by assumption) ?_
      case h8 => intro w hSw; go_simp <;> with_reducible rfl
      simp only [Act.put, List.setIfInBounds_toArray, List.set_cons_zero, List.set_cons_succ]
      refine wpAnyU_takeL (i := 9) (v := ?v9) rfl (by kernel_rfl) (by kernel_rfl) (by kernel_rfl) (by kernel_rfl) (fun _ _ _ h => h) (by rfl) ?h9 (by assumption) ?_
      case h9 => intro w hSw; go_simp <;> with_reducible rfl
      simp only [Act.put, List.setIfInBounds_toArray, List.set_cons_zero, List.set_cons_succ]
      refine wpAnyU_takeL (i := 10) (v := ?v10) rfl (by kernel_rfl) (by kernel_rfl) (by kernel_rfl) (by kernel_rfl) (fun _ _ _ h => h) (by rfl) ?h10 (by assumption) ?_
      case h10 => intro w hSw; go_simp <;> with_reducible rfl
      simp only [Act.put, List.setIfInBounds_toArray, List.set_cons_zero, List.set_cons_succ]
      refine wpAnyU_takeL (i := 11) (v := ?v11) rfl (by kernel_rfl) (by kernel_rfl) (by kernel_rfl) (by kernel_rfl) (fun _ _ _ h => h) (by rfl) ?h11 (by assumption) ?_
      case h11 => intro w hSw; go_simp <;> with_reducible rfl
      simp only [Act.put, List.setIfInBounds_toArray, List.set_cons_zero, List.set_cons_succ]
      refine wpAnyU_takeL (i := 12) (v := ?v12) rfl (by kernel_rfl) (by kernel_rfl) (by kernel_rfl) (by kernel_rfl) (fun _ _ _ h => h) (by rfl) ?h12 (by assumption) ?_
      case h12 => intro w hSw; go_simp <;> with_reducible rfl
      simp only [Act.put, List.setIfInBounds_toArray, List.set_cons_zero, List.set_cons_succ]
      refine wpAnyU_oneL (i := 13) (by kernel_rfl) rfl (by rfl) (fun K hK => ?_)
      go_simp
      refine hK.out _ _ (fun h => absurd rfl h) (fun hHeld => ?_)
      clear hK K
      refine wpAnyU_done (by kernel_rfl) ?_ _
      refine NoPanic.normal ?_
      have G0 := Away.mk (hA3.drew.other (i := q) (.int .u32 (z : Int)) (show w.heap.size ≠ w.heap.size + 1 + 1 by omega))
      have G1 := Away.mk (hR2.drew.other (i := q) (.int .u32 (z : Int)) (show w.heap.size + 1 ≠ w.heap.size + 1 + 1 by omega))
      have G2 := Away.mk (hR3.drew.set q (.int .u32 (z : Int)))
      rw [← C_set, ← HS.out] at G2
      have G3 := Away.mk (hB.drew.setCell (p := ⟨w.heap.size + 1 + 1, q, none⟩) (by simp; omega) (.int .u32 (z : Int)))
      clear hA3 hR2 hR3 hB hc hbx hHeld hf ho dq w8 hp
      go_wp2
      go_roundw
      case rel => exact ⟨k + 1, by omega, by go_num, G0.out, G1.out, G2.out, G3.out⟩
      case measure => simp [intOf]; omega
    · have HK : Away (k = 64) := ⟨by omega⟩
      have hR3 : Row wr (w.heap.size + 1 + 1) 108 (C .u32 (sch2 b 16 ++ List.replicate (64 - 16) 0)) := by rw [← acw_four hb 16 (Nat.le_refl _)]; rw [HK.out] at hR3; exact hR3
      go_wp2
      clear hA3
      go_loopw [5] (fun i wr => ∃ t : Nat, 16 ≤ t ∧ t ≤ 64 ∧ i = .int .i64 t ∧ Row wr (w.heap.size + 1) 108 (C .u32 (Z 64)) ∧ Row wr (w.heap.size + 1 + 1) 108 (C .u32 (sch2 b t ++ List.replicate (64 - t) 0)) ∧ Below w.heap.size w wr) (fun i _ => 64 - (intOf i).toNat)
      case atStart => exact ⟨16, Nat.le_refl _, by decide, rfl, hR2, hR3, hB⟩
      case round =>
        clear hR2 hR3 hB
        obtain ⟨t, ht, ht', rfl, hR2, hR3, hB⟩ := hrel
        by_cases hlt2 : t < 64
        · have hlS := sch2_length b t
          have hg : ∀ j, 1 ≤ j → j ≤ 16 → wr.cell? ⟨w.heap.size + 1 + 1, t - j, none⟩ = some (.int .u32 ((sch2 b t).getD (t - j) 0 : Nat)) := by
            intro j h1 h16
            rw [hR3.cell, C_get .u32 (by simp [hlS]; omega)]
            simp only [List.getD, List.getElem?_append_left (show t - j < (sch2 b t).length by omega)]
          have c2 := hg 2 (by decide) (by decide)
          have c7 := hg 7 (by decide) (by decide)
          have c15 := hg 15 (by decide) (by decide)
          have c16 := hg 16 (by decide) (by decide)
          have hf := hR3.frozen t
          have hct : ∃ u, wr.cell? ⟨w.heap.size + 1 + 1, t, none⟩ = some u := by
            rw [hR3.cell, C_get .u32 (by simp [hlS]; omega)]; exact ⟨_, rfl⟩
          obtain ⟨u, hct⟩ := hct
          have hlo := (sch2_lo hb t).getD (by decide)
          have l2 := hlo (t - 2)
          have l7 := hlo (t - 7)
          have l15 := hlo (t - 15)
          have l16 := hlo (t - 16)
          have HN : Away (nxt2 (sch2 b t) t = (spr 17 19 10 ((sch2 b t).getD (t - 2) 0) + (sch2 b t).getD (t - 7) 0 + spr 7 18 3 ((sch2 b t).getD (t - 15) 0) + (sch2 b t).getD (t - 16) 0) % 4294967296) := ⟨rfl⟩
          clear hg hlo
          generalize (sch2 b t).getD (t - 2) 0 = x2 at *
          generalize (sch2 b t).getD (t - 7) 0 = x7 at *
          generalize (sch2 b t).getD (t - 15) 0 = x15 at *
          generalize (sch2 b t).getD (t - 16) 0 = x16 at *
          have p2 := spread_any x2 17 19 10 l2 (by decide) (by decide) (by decide) (by decide) (by decide) (by decide)
          have p15 := spread_any x15 7 18 3 l15 (by decide) (by decide) (by decide) (by decide) (by decide) (by decide)
          have y2l := spr_lt l2 17 19 10
          have y15l := spr_lt l15 7 18 3
          generalize spr 17 19 10 x2 = y2 at *
          generalize spr 7 18 3 x15 = y15 at *
          obtain ⟨z, hz⟩ : ∃ z, (y2 + x7 + y15 + x16) % 4294967296 = z := ⟨_, rfl⟩
          rw [hz] at HN
          obtain ⟨s1, e1, s2, e2, e3⟩ : ∃ s1 : Nat, IntKind.u32.wrap ((y2 : Int) + (x7 : Int)) = (s1 : Int) ∧ ∃ s2 : Nat, IntKind.u32.wrap ((s1 : Int) + (y15 : Int)) = (s2 : Int) ∧ IntKind.u32.wrap ((s2 : Int) + (x16 : Int)) = (z : Int) :=
            ⟨(y2 + x7) % 4294967296, by rw [IntKind.wrap_u32']; omega, ((y2 + x7) % 4294967296 + y15) % 4294967296, by rw [IntKind.wrap_u32']; omega, by rw [IntKind.wrap_u32']; omega⟩
          clear hz
          obtain ⟨n2, f2, ⟨b2, a2⟩, d2⟩ : ∃ n : Nat, t - 2 = n ∧ ((n : Int) < 64 ∧ (n : Int) < (t : Int)) ∧ IntKind.i64.wrap ((t : Int) - 2) = (n : Int) := ⟨t - 2, rfl, ⟨by omega, by omega⟩, by rw [IntWalk.i64_in _ ⟨by omega, by omega⟩]; omega⟩
          obtain ⟨n7, f7, ⟨b7, a7⟩, d7⟩ : ∃ n : Nat, t - 7 = n ∧ ((n : Int) < 64 ∧ (n : Int) < (t : Int)) ∧ IntKind.i64.wrap ((t : Int) - 7) = (n : Int) := ⟨t - 7, rfl, ⟨by omega, by omega⟩, by rw [IntWalk.i64_in _ ⟨by omega, by omega⟩]; omega⟩
          obtain ⟨n15, f15, ⟨b15, a15⟩, d15⟩ : ∃ n : Nat, t - 15 = n ∧ ((n : Int) < 64 ∧ (n : Int) < (t : Int)) ∧ IntKind.i64.wrap ((t : Int) - 15) = (n : Int) := ⟨t - 15, rfl, ⟨by omega, by omega⟩, by rw [IntWalk.i64_in _ ⟨by omega, by omega⟩]; omega⟩
          obtain ⟨n16, f16, ⟨b16, a16⟩, d16⟩ : ∃ n : Nat, t - 16 = n ∧ ((n : Int) < 64 ∧ (n : Int) < (t : Int)) ∧ IntKind.i64.wrap ((t : Int) - 16) = (n : Int) := ⟨t - 16, rfl, ⟨by omega, by omega⟩, by rw [IntWalk.i64_in _ ⟨by omega, by omega⟩]; omega⟩
          have bt : (t : Int) < 64 := by omega
          rw [f2] at c2; rw [f7] at c7; rw [f15] at c15; rw [f16] at c16
          clear f2 l2 f7 l7 f15 l15 f16 l16
          go_wp2
          go_region_held3 (fun w' => w'.cell? ⟨w.heap.size + 1 + 1, n2, none⟩ = some (.int .u32 (x2 : Int)) ∧ w'.cell? ⟨w.heap.size + 1 + 1, n7, none⟩ = some (.int .u32 (x7 : Int)) ∧ w'.cell? ⟨w.heap.size + 1 + 1, n15, none⟩ = some (.int .u32 (x15 : Int)) ∧ w'.cell? ⟨w.heap.size + 1 + 1, n16, none⟩ = some (.int .u32 (x16 : Int)))
            (first | exact ⟨c2, c7, c15, c16⟩ | exact ⟨cell_set_ne c2 (by omega), cell_set_ne c7 (by omega), cell_set_ne c15 (by omega), cell_set_ne c16 (by omega)⟩)
            (first | (go_at_call_of 74 x2; refine (p2 _).mono ?_; rintro e w' ⟨rfl, m1, rfl⟩) | (go_at_call_of 74 x15; refine (p15 _).mono ?_; rintro e w' ⟨rfl, m2, rfl⟩))
          generalize 1 + m1 + m2 = mm at *
          have hR3 : Row (wr.drewN mm) (w.heap.size + 1 + 1) 108 (C .u32 (sch2 b t ++ List.replicate (64 - t) 0)) := hR3
          have hR2 : Row (wr.drewN mm) (w.heap.size + 1) 108 (C .u32 (Z 64)) := hR2
          have hRn : Row ((wr.drewN mm).setCell ⟨w.heap.size + 1 + 1, t, none⟩ (.int .u32 (z : Int))) (w.heap.size + 1 + 1) 108 (C .u32 (sch2 b (t + 1) ++ List.replicate (64 - (t + 1)) 0)) := by
            have := hR3.set t (.int .u32 (z : Nat))
            rw [← C_set] at this
            have e : (sch2 b t ++ List.replicate (64 - t) 0).set t z = sch2 b (t + 1) ++ List.replicate (64 - (t + 1)) 0 := by
              obtain ⟨n, hn⟩ : ∃ n, 64 - t = n + 1 := ⟨63 - t, by omega⟩
              rw [hn, List.replicate_succ, show 64 - (t + 1) = n by omega, sch2, if_neg (by omega), HN.out]
              have := set_at (sch2 b t) n z 0
              rw [hlS] at this
              rw [this]; simp
            rwa [e] at this
          have hR2n := hR2.other (i := t) (.int .u32 (z : Int)) (show w.heap.size + 1 ≠ w.heap.size + 1 + 1 by omega)
          have hBn := (below_drewN hB mm).setCell (p := ⟨w.heap.size + 1 + 1, t, none⟩) (by simp; omega) (.int .u32 (z : Int))
          clear hR2 hR3 hB HN c2 c7 c15 c16 d2 d7 d15 d16 e1 e2 e3 p2 p15
          generalize (wr.drewN mm).setCell ⟨w.heap.size + 1 + 1, t, none⟩ (.int .u32 (z : Int)) = wn at *
          go_wp2
          go_roundw
          case rel => exact ⟨t + 1, by omega, by omega, by go_num, hR2n, hRn, hBn⟩
          case measure => simp [intOf]; omega
        · obtain rfl : t = 64 := by omega
          simp only [Nat.sub_self, List.replicate_zero, List.append_nil] at hR3
          have hS := sch2_length b 64
          generalize hSe : sch2 b 64 = S at *
          have HS : Away (sch2 b 64 = S) := ⟨hSe⟩
          clear hSe
          have hs64 : (C .u32 S).toArray.size = 64 := by rw [C_size, hS]
          have hi64w : (Tryd.prog.info? 108).map (·.size) = some (C .u32 S).toArray.size := by rw [hs64]; exact i64w
          have ho64 : (C .u32 (Z 64)).toArray.size = (C .u32 S).toArray.size := by rw [hs64, C_size, Z_length]
          have hl64 : (Tryd.prog.info? 108).map (·.size) = some (C .u32 S).length := by rw [C_length, hS]; exact i64w
          have hB' := below_setRow hB (g := w.heap.size + 1) (by omega) (C .u32 S).toArray
          go_wp2_with (first | refine wpList_load_row rfl 108 _ rfl _ rfl _ _ _ _ hR3 Tryd.underlying108 rfl hi64w ?_ | refine wpList_store_row rfl 108 _ _ rfl _ _ rfl rfl _ _ hR2 hi64w ho64 (C_all _ _) ?_ | ((with_reducible refine result_row (g := w.heap.size + 1) (us := C .u32 S) Tryd.results69 ?_ (hR2.setRow _) Tryd.underlying108 ?_ hl64 ?_ ⟨by rw [HS.out], hB'⟩) <;> rfl))
end Go.Proofs.YtmbaenodibfedaaDoor.S2
