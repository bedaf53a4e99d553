/-
  Contracts of the first hash's written, ended and Sum, over this seat's translation. Conditions: each as it says.
-/
import Derived.Test.YtmbaenodibfedaaDoorShaC
namespace Go.Proofs.YtmbaenodibfedaaDoor.S1
open Go.RowKit
set_option linter.unusedVariables false
set_option maxRecDepth 10000

theorem out1_length (s : S5) : (out1 s).length = 20 := rfl
theorem out1_get (s : S5) (q r : Nat) (hq : q < 5) (hr : r < 4) : (out1 s).getD (4 * q + r) 0 = s.list.getD q 0 / 2 ^ (8 * (3 - r)) % 256 := by
  have hq' : q = 0 ∨ q = 1 ∨ q = 2 ∨ q = 3 ∨ q = 4 := by omega
  have hr' : r = 0 ∨ r = 1 ∨ r = 2 ∨ r = 3 := by omega
  rcases hq' with rfl | rfl | rfl | rfl | rfl <;> rcases hr' with rfl | rfl | rfl | rfl <;> first | rfl | (simp [out1, out4, S5.list])
theorem list_lt {s : S5} (h : s.ok) (q : Nat) : s.list.getD q 0 < 4294967296 := by
  have hl : Lo 4294967296 s.list := by
    obtain ⟨h1, h2, h3, h4, h5⟩ := h
    intro x hx
    simp only [S5.list, List.mem_cons, List.not_mem_nil, or_false] at hx
    rcases hx with rfl | rfl | rfl | rfl | rfl <;> assumption
  exact hl.getD (by decide) q
theorem written_any (s : S5) (hs : s.ok) (w : World) :
    Calls Tryd.prog 31 #[.agg (C .u32 s.list).toArray] w fun e w' => e = .returned (.agg (C .u8 (out1 s)).toArray) ∧ Below w.heap.size w w' := by
  have hA := ((Row.new w 59 (C .u32 s.list)).alloc (.cells (C .u8 (Z 20)).toArray 41)).alloc (.cells (C .u8 (Z 20)).toArray 41)
  have hB := (Row.newAt (w.alloc (.cells (C .u32 s.list).toArray 59)) (w.heap.size + 1) (by simp) 41 (C .u8 (Z 20))).alloc (.cells (C .u8 (Z 20)).toArray 41)
  have hC := Row.newAt ((w.alloc (.cells (C .u32 s.list).toArray 59)).alloc (.cells (C .u8 (Z 20)).toArray 41)) (w.heap.size + 1 + 1) (by simp) 41 (C .u8 (Z 20))
  have hL0 := Below.more (Below.refl w.heap.size w) (Nat.le_refl _) (.cells (C .u32 s.list).toArray 59)
  have hL1 := Below.more hL0.1 hL0.2 (.cells (C .u8 (Z 20)).toArray 41)
  have hL := (Below.more hL1.1 hL1.2 (.cells (C .u8 (Z 20)).toArray 41)).1
  clear hL0 hL1
  go_enter Tryd.func31, Tryd.ntmps31
  go_wp2_with (refine wpList_alloc_row rfl 41 rfl _ z20 ?_)
  generalize ((w.alloc (.cells (C .u32 s.list).toArray 59)).alloc (.cells (C .u8 (Z 20)).toArray 41)).alloc (.cells (C .u8 (Z 20)).toArray 41) = w3 at *
  go_loopw [5] (fun i wr => ∃ k : Nat, k ≤ 20 ∧ i = .int .i64 k ∧ Row wr w.heap.size 59 (C .u32 s.list) ∧ Row wr (w.heap.size + 1) 41 (C .u8 (Z 20)) ∧ Row wr (w.heap.size + 1 + 1) 41 (C .u8 (upto (out1 s) 20 k)) ∧ Below w.heap.size w wr) (fun i _ => 20 - (intOf i).toNat)
  case atStart => exact ⟨0, Nat.zero_le _, rfl, hA, hB, by rw [upto_zero]; exact hC, hL⟩
  case round =>
    clear hA hB hC hL
    obtain ⟨k, hk, rfl, hA, hB, hC, hL⟩ := hrel
    by_cases hlt : k < 20
    · have hc := hA.cell (k / 4)
      rw [C_get .u32 (show k / 4 < s.list.length by simp [S5.list]; omega)] at hc
      have HG := Away.mk (out1_get s (k / 4) (k % 4) (by omega) (by omega))
      have HK : Away (4 * (k / 4) + k % 4 = k) := ⟨by omega⟩
      rw [HK.out] at HG
      have hx := list_lt hs (k / 4)
      generalize s.list.getD (k / 4) 0 = x at *
      have hct : ∃ u, wr.cell? ⟨w.heap.size + 1 + 1, k, none⟩ = some u := by
        rw [hC.cell, C_get .u8 (by rw [upto_length (out1_length s) (by omega)]; omega)]; exact ⟨_, rfl⟩
      obtain ⟨u, hct⟩ := hct
      have hf := hC.frozen k
      have hr4 : k % 4 = 0 ∨ k % 4 = 1 ∨ k % 4 = 2 ∨ k % 4 = 3 := by omega
      rcases hr4 with hr | hr | hr | hr
      · have hri : (k : Int) % 4 = 0 := by omega
        rw [hr] at HG
        go_wp2
        go_roundw
        case rel => exact ⟨k + 1, by omega, by go_num, hA.other _ (by omega), hB.other _ (by omega), upto_row hC (out1_length s) hlt (by rw [HG.out]; simp <;> omega), hL.setCell (by simp; omega) _⟩
        case measure => simp [intOf]; omega
      · have hri : (k : Int) % 4 = 1 := by omega
        rw [hr] at HG
        go_wp2
        go_roundw
        case rel => exact ⟨k + 1, by omega, by go_num, hA.other _ (by omega), hB.other _ (by omega), upto_row hC (out1_length s) hlt (by rw [HG.out]; simp <;> omega), hL.setCell (by simp; omega) _⟩
        case measure => simp [intOf]; omega
      · have hri : (k : Int) % 4 = 2 := by omega
        rw [hr] at HG
        go_wp2
        go_roundw
        case rel => exact ⟨k + 1, by omega, by go_num, hA.other _ (by omega), hB.other _ (by omega), upto_row hC (out1_length s) hlt (by rw [HG.out]; simp <;> omega), hL.setCell (by simp; omega) _⟩
        case measure => simp [intOf]; omega
      · have hri : (k : Int) % 4 = 3 := by omega
        rw [hr] at HG
        go_wp2
        go_roundw
        case rel => exact ⟨k + 1, by omega, by go_num, hA.other _ (by omega), hB.other _ (by omega), upto_row hC (out1_length s) hlt (by rw [HG.out]; simp <;> omega), hL.setCell (by simp; omega) _⟩
        case measure => simp [intOf]; omega
    · obtain rfl : k = 20 := by omega
      rw [upto_all (out1_length s)] at hC
      have hlt2 := hB.lt
      go_wp2_with (first | refine wpList_load_row rfl 41 _ rfl _ rfl _ _ _ _ hC Tryd.underlying41 rfl i20 ?_ | (refine wpList_store_R rfl 41 _ _ rfl _ _ rfl rfl hB i20 rfl (C_allL _ _) ?_; intro w5 hR5 hg5 hz5))
      exact result_row Tryd.results31 rfl hR5 Tryd.underlying41 rfl i20 rfl ⟨rfl, below_grown hL hg5 (by omega) hlt2⟩
end Go.Proofs.YtmbaenodibfedaaDoor.S1
