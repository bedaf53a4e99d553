/-
  Contracts of the first hash's words, over this seat's translation. Conditions: each as it says.
-/
import Derived.Test.YtmbaenodibfedaaDoorShaA
namespace Go.Proofs.YtmbaenodibfedaaDoor.S1
open Go.RowKit
set_option linter.unusedVariables false

theorem z80 (w : World) : (zeroValue 88).run Tryd.prog w = .ok (.agg (C .u32 (Z 80)).toArray) w := by kernel_rfl
theorem z64 (w : World) : (zeroValue 47).run Tryd.prog w = .ok (.agg (C .u8 (Z 64)).toArray) w := by kernel_rfl
theorem z20 (w : World) : (zeroValue 41).run Tryd.prog w = .ok (.agg (C .u8 (Z 20)).toArray) w := by kernel_rfl
theorem z5 (w : World) : (zeroValue 59).run Tryd.prog w = .ok (.agg (C .u32 (Z 5)).toArray) w := by kernel_rfl
theorem b64 : Tryd.prog.built 47 [] = some (C .u8 (Z 64)).toArray := by kernel_rfl
theorem b20 : Tryd.prog.built 41 [] = some (C .u8 (Z 20)).toArray := by kernel_rfl
theorem inf8 : (Tryd.prog.info? 5).map (fun i => (i.zero, i.size, i.bytes)) = some (some (.int .u8 0), 1, 1) := by kernel_rfl
theorem inf32 : (Tryd.prog.info? 58).map (fun i => (i.zero, i.size, i.bytes)) = some (some (.int .u32 0), 1, 4) := by kernel_rfl
theorem i80 : (Tryd.prog.info? 88).map (·.size) = some 80 := by kernel_rfl
theorem i64 : (Tryd.prog.info? 47).map (·.size) = some 64 := by kernel_rfl
theorem i20 : (Tryd.prog.info? 41).map (·.size) = some 20 := by kernel_rfl
theorem i5 : (Tryd.prog.info? 59).map (·.size) = some 5 := by kernel_rfl
theorem i1b : (Tryd.prog.info? 5).map (·.size) = some 1 := by kernel_rfl
theorem i1w : (Tryd.prog.info? 58).map (·.size) = some 1 := by kernel_rfl

/-- The words behind k bytes. -/
def acw (b : List Nat) : Nat → List Nat
  | 0 => Z 80
  | k + 1 => (acw b k).set (k / 4) (((acw b k).getD (k / 4) 0 * 256 % 4294967296) ||| b.getD k 0)
theorem acw_length (b : List Nat) (k : Nat) : (acw b k).length = 80 := by
  induction k with
  | zero => simp [acw, Z]
  | succ k ih => simp [acw, ih]
theorem acw_lo {b : List Nat} (h : Lo 256 b) (k : Nat) : Lo 4294967296 (acw b k) := by
  induction k with
  | zero => exact Z_lo (by decide) _
  | succ k ih =>
    refine ih.set _ _ (or_lt32 (mod_lt32 _) ?_)
    have := h.getD (by decide) k
    omega
theorem or8n {n x : Nat} (hx : x < 256) (hn : n < 16777216) : (n * 256 % 4294967296) ||| x = n * 256 + x := by
  rw [Nat.mod_eq_of_lt (by omega), Nat.mul_comm, ← Nat.two_pow_add_eq_or_of_lt (i := 8) hx n]
theorem acw_four {b : List Nat} (h : Lo 256 b) (t : Nat) (ht : t ≤ 16) : acw b (4 * t) = sch1 b t ++ List.replicate (80 - t) 0 := by
  induction t with
  | zero => simp [acw, sch1, Z]
  | succ t ih =>
    have ih := ih (by omega)
    have h0 := h.getD (by decide) (4 * t)
    have h1 := h.getD (by decide) (4 * t + 1)
    have h2 := h.getD (by decide) (4 * t + 2)
    have h3 := h.getD (by decide) (4 * t + 3)
    have hl := sch1_length b t
    obtain ⟨n, hn⟩ : ∃ n, 80 - t = n + 1 := ⟨79 - t, by omega⟩
    rw [hn, List.replicate_succ] at ih
    have e0 : 4 * t / 4 = t := by omega
    have e1 : (4 * t + 1) / 4 = t := by omega
    have e2 : (4 * t + 2) / 4 = t := by omega
    have e3 : (4 * t + 3) / 4 = t := by omega
    have g : ∀ y, (sch1 b t ++ (y :: List.replicate n 0)).getD t 0 = y := fun y => by have := getD_at (sch1 b t) (List.replicate n 0) y; rwa [hl] at this
    have s : ∀ x y, (sch1 b t ++ (y :: List.replicate n 0)).set t x = sch1 b t ++ (x :: List.replicate n 0) := fun x y => by have := set_at (sch1 b t) n x y; rwa [hl] at this
    have a1 : acw b (4 * t + 1) = sch1 b t ++ (b.getD (4 * t) 0 :: List.replicate n 0) := by
      rw [acw, ih, e0, g, s, or8n h0 (by decide)]; simp
    have a2 : acw b (4 * t + 2) = sch1 b t ++ ((b.getD (4 * t) 0 * 256 + b.getD (4 * t + 1) 0) :: List.replicate n 0) := by
      rw [acw, a1, e1, g, s, or8n h1 (by omega)]
    have a3 : acw b (4 * t + 3) = sch1 b t ++ (((b.getD (4 * t) 0 * 256 + b.getD (4 * t + 1) 0) * 256 + b.getD (4 * t + 2) 0) :: List.replicate n 0) := by
      rw [acw, a2, e2, g, s, or8n h2 (by omega)]
    have a4 : acw b (4 * t + 4) = sch1 b t ++ ((((b.getD (4 * t) 0 * 256 + b.getD (4 * t + 1) 0) * 256 + b.getD (4 * t + 2) 0) * 256 + b.getD (4 * t + 3) 0) :: List.replicate n 0) := by
      rw [acw, a3, e3, g, s, or8n h3 (by omega)]
    rw [show 4 * (t + 1) = 4 * t + 4 by omega, a4, sch1, if_pos (by omega), show 80 - (t + 1) = n by omega]
    have ew : ((b.getD (4 * t) 0 * 256 + b.getD (4 * t + 1) 0) * 256 + b.getD (4 * t + 2) 0) * 256 + b.getD (4 * t + 3) 0 = wd b t := by unfold wd; omega
    rw [ew]
    simp only [List.append_assoc, List.singleton_append]
theorem words_any (b : List Nat) (hb : Lo 256 b) (hl : b.length = 64) (w : World) :
    Calls Tryd.prog 53 #[.agg (C .u8 b).toArray] w fun e w' => e = .returned (.agg (C .u32 (sch1 b 80)).toArray) ∧ Below w.heap.size w w' := by
  have hA := Row.new w 47 (C .u8 b)
  have hA3 := (hA.alloc (.cells (C .u32 (Z 80)).toArray 88)).alloc (.cells (C .u32 (Z 80)).toArray 88)
  go_enter Tryd.func53, Tryd.ntmps53
  go_wp2_with (first | refine wpList_alloc_row rfl 88 rfl _ z80 ?_ | refine wpList_load_row rfl 47 _ rfl _ rfl _ _ _ _ hA3 Tryd.underlying47 rfl (by rw [C_size, hl]; exact i64) ?_)
  have hR2 := (Row.newAt (w.alloc (.cells (C .u8 b).toArray 47)) (w.heap.size + 1) (by simp) 88 (C .u32 (Z 80))).alloc (.cells (C .u32 (Z 80)).toArray 88)
  have hR3 := Row.newAt ((w.alloc (.cells (C .u8 b).toArray 47)).alloc (.cells (C .u32 (Z 80)).toArray 88)) (w.heap.size + 1 + 1) (by simp) 88 (C .u32 (Z 80))
  have hB0 := Below.more (Below.refl w.heap.size w) (Nat.le_refl _) (.cells (C .u8 b).toArray 47)
  have hB1 := Below.more hB0.1 hB0.2 (.cells (C .u32 (Z 80)).toArray 88)
  have hB := (Below.more hB1.1 hB1.2 (.cells (C .u32 (Z 80)).toArray 88)).1
  clear hB0 hB1
  clear hA hA3
  generalize ((w.alloc (.cells (C .u8 b).toArray 47)).alloc (.cells (C .u32 (Z 80)).toArray 88)).alloc (.cells (C .u32 (Z 80)).toArray 88) = w3 at *
  go_loopw [8] (fun i wr => ∃ k : Nat, k ≤ 64 ∧ i = .int .i64 k ∧ Row wr (w.heap.size + 1) 88 (C .u32 (Z 80)) ∧ Row wr (w.heap.size + 1 + 1) 88 (C .u32 (acw b k)) ∧ Below w.heap.size w wr) (fun i _ => 64 - (intOf i).toNat)
  case atStart => exact ⟨0, Nat.zero_le _, rfl, hR2, hR3, hB⟩
  case round =>
    clear hR2 hR3 hB
    obtain ⟨k, hk, rfl, hR2, hR3, hB⟩ := hrel
    by_cases hlt : k < 64
    · have hix := fun w => run_index_C (P := Tryd.prog) w (q := .u8) Tryd.underlying47 (by kernel_rfl) i1b b k hlt hl
      have hc := hR3.cell (k / 4)
      rw [C_get .u32 (by rw [acw_length]; omega)] at hc
      have hf := hR3.frozen (k / 4)
      have hx := hb.getD (by decide) k
      have hy := (acw_lo hb k).getD (by decide) (k / 4)
      have HS : Away (acw b (k + 1) = (acw b k).set (k / 4) (((acw b k).getD (k / 4) 0 * 256 % 4294967296) ||| b.getD k 0)) := ⟨rfl⟩
      generalize b.getD k 0 = x at *
      generalize hye : (acw b k).getD (k / 4) 0 = y at *
      have ho : bits .or .u32 ((y : Int) * 256 % 4294967296) (x : Int) = ((y * 256 % 4294967296 ||| x : Nat) : Int) := by
        have := u32_or_nat (y * 256 % 4294967296) x (mod_lt32 _) (by omega)
        rw [← this]; simp
      generalize y * 256 % 4294967296 ||| x = z at *
      go_wp2
      go_roundw
      case rel => exact ⟨k + 1, by omega, by go_num, hR2.other _ (by omega), by rw [HS.out, C_set]; exact hR3.set _ _, hB.setCell (by simp; omega) _⟩
      case measure => simp [intOf]; omega
    · have HK : Away (k = 64) := ⟨by omega⟩
      have hR3 : Row wr (w.heap.size + 1 + 1) 88 (C .u32 (sch1 b 16 ++ List.replicate (80 - 16) 0)) := by rw [← acw_four hb 16 (Nat.le_refl _)]; rw [HK.out] at hR3; exact hR3
      go_wp2
      go_loopw [6] (fun i wr => ∃ t : Nat, 16 ≤ t ∧ t ≤ 80 ∧ i = .int .i64 t ∧ Row wr (w.heap.size + 1) 88 (C .u32 (Z 80)) ∧ Row wr (w.heap.size + 1 + 1) 88 (C .u32 (sch1 b t ++ List.replicate (80 - t) 0)) ∧ Below w.heap.size w wr) (fun i _ => 80 - (intOf i).toNat)
      case atStart => exact ⟨16, Nat.le_refl _, by decide, rfl, hR2, hR3, hB⟩
      case round =>
        clear hR2 hR3 hB
        obtain ⟨t, ht, ht', rfl, hR2, hR3, hB⟩ := hrel
        by_cases hlt2 : t < 80
        · have hlS := sch1_length b t
          have hg : ∀ j, 1 ≤ j → j ≤ 16 → wr.cell? ⟨w.heap.size + 1 + 1, t - j, none⟩ = some (.int .u32 ((sch1 b t).getD (t - j) 0 : Nat)) := by
            intro j h1 h16
            rw [hR3.cell, C_get .u32 (by simp [hlS]; omega)]
            simp only [List.getD, List.getElem?_append_left (show t - j < (sch1 b t).length by omega)]
          have c3 := hg 3 (by decide) (by decide)
          have c8 := hg 8 (by decide) (by decide)
          have c14 := hg 14 (by decide) (by decide)
          have c16 := hg 16 (by decide) (by decide)
          have hf := hR3.frozen t
          have hct : ∃ u, wr.cell? ⟨w.heap.size + 1 + 1, t, none⟩ = some u := by
            rw [hR3.cell, C_get .u32 (by simp [hlS]; omega)]; exact ⟨_, rfl⟩
          obtain ⟨u, hct⟩ := hct
          have hlo := (sch1_lo hb t).getD (by decide)
          have l3 := hlo (t - 3)
          have l8 := hlo (t - 8)
          have l14 := hlo (t - 14)
          have l16 := hlo (t - 16)
          have HN : Away (nxt1 (sch1 b t) t = rot 1 ((sch1 b t).getD (t - 3) 0 ^^^ (sch1 b t).getD (t - 8) 0 ^^^ (sch1 b t).getD (t - 14) 0 ^^^ (sch1 b t).getD (t - 16) 0)) := ⟨rfl⟩
          clear hg hlo
          generalize (sch1 b t).getD (t - 3) 0 = x3 at *
          generalize (sch1 b t).getD (t - 8) 0 = x8 at *
          generalize (sch1 b t).getD (t - 14) 0 = x14 at *
          generalize (sch1 b t).getD (t - 16) 0 = x16 at *
          have o1 := u32_xor_nat x3 x8 l3 l8
          have o2 := u32_xor_nat (x3 ^^^ x8) x14 (xor_lt32 l3 l8) l14
          have o3 := u32_xor_nat (x3 ^^^ x8 ^^^ x14) x16 (xor_lt32 (xor_lt32 l3 l8) l14) l16
          have lz := xor_lt32 (xor_lt32 (xor_lt32 l3 l8) l14) l16
          generalize x3 ^^^ x8 ^^^ x14 ^^^ x16 = z at *
          obtain ⟨n3, e3, ⟨b3, a3⟩, d3⟩ : ∃ n : Nat, t - 3 = n ∧ ((n : Int) < 80 ∧ (n : Int) < (t : Int)) ∧ IntKind.i64.wrap ((t : Int) - 3) = (n : Int) := ⟨t - 3, rfl, ⟨by omega, by omega⟩, by rw [IntWalk.i64_in _ ⟨by omega, by omega⟩]; omega⟩
          obtain ⟨n8, e8, ⟨b8, a8⟩, d8⟩ : ∃ n : Nat, t - 8 = n ∧ ((n : Int) < 80 ∧ (n : Int) < (t : Int)) ∧ IntKind.i64.wrap ((t : Int) - 8) = (n : Int) := ⟨t - 8, rfl, ⟨by omega, by omega⟩, by rw [IntWalk.i64_in _ ⟨by omega, by omega⟩]; omega⟩
          obtain ⟨n14, e14, ⟨b14, a14⟩, d14⟩ : ∃ n : Nat, t - 14 = n ∧ ((n : Int) < 80 ∧ (n : Int) < (t : Int)) ∧ IntKind.i64.wrap ((t : Int) - 14) = (n : Int) := ⟨t - 14, rfl, ⟨by omega, by omega⟩, by rw [IntWalk.i64_in _ ⟨by omega, by omega⟩]; omega⟩
          obtain ⟨n16, e16, ⟨b16, a16⟩, d16⟩ : ∃ n : Nat, t - 16 = n ∧ ((n : Int) < 80 ∧ (n : Int) < (t : Int)) ∧ IntKind.i64.wrap ((t : Int) - 16) = (n : Int) := ⟨t - 16, rfl, ⟨by omega, by omega⟩, by rw [IntWalk.i64_in _ ⟨by omega, by omega⟩]; omega⟩
          have bt : (t : Int) < 80 := by omega
          rw [e3] at c3; rw [e8] at c8; rw [e14] at c14; rw [e16] at c16
          clear e3 e8 e14 e16 l3 l8 l14 l16
          go_wp2
          go_region_held3 (fun w' => w'.cell? ⟨w.heap.size + 1 + 1, n3, none⟩ = some (.int .u32 (x3 : Int)) ∧ w'.cell? ⟨w.heap.size + 1 + 1, n8, none⟩ = some (.int .u32 (x8 : Int)) ∧ w'.cell? ⟨w.heap.size + 1 + 1, n14, none⟩ = some (.int .u32 (x14 : Int)) ∧ w'.cell? ⟨w.heap.size + 1 + 1, n16, none⟩ = some (.int .u32 (x16 : Int)))
            (first | exact ⟨c3, c8, c14, c16⟩ | exact ⟨cell_set_ne c3 (by omega), cell_set_ne c8 (by omega), cell_set_ne c14 (by omega), cell_set_ne c16 (by omega)⟩)
            (first | (go_at_call 66; refine (rotl_any z 1 lz (by decide) _).mono ?_; rintro e w' ⟨rfl, rfl⟩))
          have hRn : Row (wr.setCell ⟨w.heap.size + 1 + 1, t, none⟩ (.int .u32 (rot 1 z : Nat))) (w.heap.size + 1 + 1) 88 (C .u32 (sch1 b (t + 1) ++ List.replicate (80 - (t + 1)) 0)) := by
            have := hR3.set t (.int .u32 (rot 1 z : Nat))
            rw [← C_set] at this
            have e : (sch1 b t ++ List.replicate (80 - t) 0).set t (rot 1 z) = sch1 b (t + 1) ++ List.replicate (80 - (t + 1)) 0 := by
              obtain ⟨n, hn⟩ : ∃ n, 80 - t = n + 1 := ⟨79 - t, by omega⟩
              rw [hn, List.replicate_succ, show 80 - (t + 1) = n by omega, sch1, if_neg (by omega), HN.out]
              have := set_at (sch1 b t) n (rot 1 z) 0
              rw [hlS] at this
              rw [this]; simp
            rwa [e] at this
          have hR2n := hR2.other (i := t) (.int .u32 (rot 1 z : Nat)) (show w.heap.size + 1 ≠ w.heap.size + 1 + 1 by omega)
          have hBn := hB.setCell (p := ⟨w.heap.size + 1 + 1, t, none⟩) (by simp; omega) (.int .u32 (rot 1 z : Nat))
          clear hR2 hR3 hB HN o1 o2 o3 c3 c8 c14 c16 d3 d8 d14 d16
          generalize wr.setCell ⟨w.heap.size + 1 + 1, t, none⟩ (.int .u32 (rot 1 z : Nat)) = wn at *
          go_wp2
          go_roundw
          case rel => exact ⟨t + 1, by omega, by omega, by go_num, hR2n.drew, hRn.drew, hBn.drew⟩
          case measure => simp [intOf]; omega
        · obtain rfl : t = 80 := by omega
          simp only [Nat.sub_self, List.replicate_zero, List.append_nil] at hR3
          have hS := sch1_length b 80
          generalize hSe : sch1 b 80 = S at *
          have HS : Away (sch1 b 80 = S) := ⟨hSe⟩
          clear hSe
          have hs80 : (C .u32 S).toArray.size = 80 := by rw [C_size, hS]
          have hi80 : (Tryd.prog.info? 88).map (·.size) = some (C .u32 S).toArray.size := by rw [hs80]; exact i80
          have ho80 : (C .u32 (Z 80)).toArray.size = (C .u32 S).toArray.size := by rw [hs80, C_size, Z_length]
          have hl80 : (Tryd.prog.info? 88).map (·.size) = some (C .u32 S).length := by rw [C_length, hS]; exact i80
          have hB' := below_setRow hB (g := w.heap.size + 1) (by omega) (C .u32 S).toArray
          go_wp2_with (first | refine wpList_load_row rfl 88 _ rfl _ rfl _ _ _ _ hR3 Tryd.underlying88 rfl hi80 ?_ | refine wpList_store_row rfl 88 _ _ rfl _ _ rfl rfl _ _ hR2 hi80 ho80 (C_all _ _) ?_ | ((with_reducible refine result_row (g := w.heap.size + 1) (us := C .u32 S) Tryd.results53 ?_ (hR2.setRow _) Tryd.underlying88 ?_ hl80 ?_ ⟨by rw [HS.out], hB'⟩) <;> rfl))
end Go.Proofs.YtmbaenodibfedaaDoor.S1
