/-
  Contract of alive, the live question of layer 5, over this seat's translation. No conditions.
-/
import Derived.Test.YtdikjmodjaodfaaModC
namespace Go.Proofs.Ytdikjmodjaodfaa
open Go.RowKit
set_option linter.unusedVariables false

theorem num_lit (w : World) (n : Nat) (h0 : n ≠ 0) (hn : n < 4294967296) : Num (w.alloc (.cells #[.int .u32 (n : Int)] 34)) (.slice (some ⟨w.heap.size, 0, none⟩) 1 1) n 1 := by
  have := (ra_lit w n h0 hn).num (K := 1) (by rw [Nat.pow_one]; exact hn)
  simpa only [C, List.map_cons, List.map_nil] using this
theorem below_lit (w : World) (v : Value) : Below w.heap.size w (w.alloc (.cells #[v] 34)) := (Below.refl _ _).alloc (Nat.le_refl _) _
theorem ra_one (w : World) (n : Nat) (h0 : n ≠ 0) (hn : n < 4294967296) : RA (w.alloc (.cells #[.int .u32 (n : Int)] 34)) (.slice (some ⟨w.heap.size, 0, none⟩) 1 1) n := by
  have := ra_lit w n h0 hn
  simpa only [C, List.map_cons, List.map_nil] using this

theorem below_sized {B : Nat} {w w' : World} (h : Below B w w') (e : w.heap.size = B) : Below w.heap.size w w' := e ▸ h

set_option maxHeartbeats 4000000 in
theorem alive5_true (w : World) : Calls Try.prog 8 #[] w fun e w' => e = .returned (.bool true) ∧ Below w.heap.size w w' := by
  go_enter Try.func8, Try.ntmps8
  have H3 := Away.mk ((num_lit w 3 (by decide) (by decide)).below (below_lit _ (.int .u32 4)))
  have H4 := Away.mk (num_lit (w.alloc (.cells #[.int .u32 3] 34)) 4 (by decide) (by decide))
  have HB : Away (Below w.heap.size w _) := ⟨((Below.refl _ w).alloc (Nat.le_refl _) (.cells #[.int .u32 3] 34)).alloc (by simp) (.cells #[.int .u32 4] 34)⟩
  replace H3 := Away.mk (H3.out.below (below_lit _ (.int .u32 7)))
  replace H4 := Away.mk (H4.out.below (below_lit _ (.int .u32 7)))
  have H7 := Away.mk (num_lit ((w.alloc (.cells #[.int .u32 3] 34)).alloc (.cells #[.int .u32 4] 34)) 7 (by decide) (by decide))
  replace HB := Away.mk (HB.out.alloc (by simp; omega) (.cells #[.int .u32 7] 34))
  have HD := Away.mk (exp_n _ H3.out H4.out H7.out (by decide) (by decide) (by decide) (by decide))
  rw [show 3 ^ 4 % 7 = 4 by decide] at HD
  simp only [World.size_alloc] at HD
  clear H3 H4 H7
  go_wp2_with fail
  refine HD.out.mono ?_
  rintro _ w1 ⟨v1, rfl, h1, hb⟩
  have H1 := Away.mk h1
  replace hb := below_sized hb (by simp)
  replace HB := Away.mk (HB.out.trans (hb.mono HB.out.size))
  clear h1 hb HD
  have H3 := Away.mk ((num_lit w1 3 (by decide) (by decide)).below (below_lit _ (.int .u32 7)))
  have H7 := Away.mk (num_lit (w1.alloc (.cells #[.int .u32 3] 34)) 7 (by decide) (by decide))
  replace H1 := Away.mk ((H1.out.below (below_lit _ (.int .u32 3))).below (below_lit _ (.int .u32 7)))
  replace HB := Away.mk ((HB.out.alloc HB.out.size (.cells #[.int .u32 3] 34)).alloc (by have := HB.out.size; simp; omega) (.cells #[.int .u32 7] 34))
  have HD := Away.mk (inverse_ok _ H3.out H7.out (by decide) (by decide) (by decide))
  simp only [World.size_alloc] at HD
  clear H3 H7
  go_wp2_with fail
  refine HD.out.mono ?_
  rintro _ w2 ⟨v2, X, rfl, h2, hX, hb⟩
  have hX5 : X = 5 := by unfold Inv at hX; omega
  subst hX5
  have H2 := Away.mk h2
  replace hb := below_sized hb (by simp)
  replace H1 := Away.mk (H1.out.below hb); replace HB := Away.mk (HB.out.trans (hb.mono HB.out.size))
  clear h2 hb HD hX
  go_wp2_with fail
  refine (mulm_0 w2 (Num.nil _ 0) (Num.nil _ 0) (Num.nil _ 0) (by decide) (by decide) (by decide)).mono ?_
  rintro _ w3 ⟨rfl, hb⟩
  replace H1 := Away.mk (H1.out.below hb); replace H2 := Away.mk (H2.out.below hb); replace HB := Away.mk (HB.out.trans (hb.mono HB.out.size))
  clear hb
  have H4 := Away.mk (ra_one w3 4 (by decide) (by decide))
  replace H1 := Away.mk (H1.out.below (below_lit _ (.int .u32 4))); replace H2 := Away.mk (H2.out.below (below_lit _ (.int .u32 4)))
  replace HB := Away.mk (HB.out.alloc HB.out.size (.cells #[.int .u32 4] 34))
  go_wp2_with fail
  refine (same_rb _ _ 4 1 _ H1.out H4.out (by decide) (by decide)).mono ?_
  rintro _ w4 ⟨rfl, hb⟩
  replace H2 := Away.mk (H2.out.below hb); replace HB := Away.mk (HB.out.trans (hb.mono HB.out.size))
  clear hb H1 H4
  have H5 := Away.mk (ra_one w4 5 (by decide) (by decide))
  replace H2 := Away.mk (H2.out.below (below_lit _ (.int .u32 5)))
  replace HB := Away.mk (HB.out.alloc HB.out.size (.cells #[.int .u32 5] 34))
  go_wp2_with fail
  refine (same_rb _ _ 5 1 _ H2.out H5.out (by decide) (by decide)).mono ?_
  rintro _ w5 ⟨rfl, hb⟩
  replace HB := Away.mk (HB.out.trans (hb.mono HB.out.size))
  clear hb H2 H5
  go_wp2
  go_ret
  exact ⟨rfl, HB.out⟩
end Go.Proofs.Ytdikjmodjaodfaa
