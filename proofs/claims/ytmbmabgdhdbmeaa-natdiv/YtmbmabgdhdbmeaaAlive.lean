/-
  Contract of alive, the live question, over this seat's translation. No conditions.
-/
import Derived.Test.YtmbmabgdhdbmeaaRefF
namespace Go.Proofs.Ytmbmabgdhdbmeaa
open Go.RowKit
set_option linter.unusedVariables false

theorem SlV_lit (w : World) (ns : List Nat) (hm : ns.length ≤ 1000) : SlV (w.alloc (.cells (C .u32 ns).toArray 47)) (.slice (some ⟨w.heap.size, 0, none⟩) ns.length ns.length) (C .u32 ns) := by
  have := (Row.new w 47 (C .u32 ns)).slAll (by rw [C_length]; unfold maxLen; omega)
  rwa [C_length] at this
theorem ra_lit (w : World) (n : Nat) (h0 : n ≠ 0) (hn : n < 4294967296) : RA (w.alloc (.cells (C .u32 [n]).toArray 47)) (.slice (some ⟨w.heap.size, 0, none⟩) 1 1) n := by
  refine ⟨[n], ⟨by simp [val], by intro u hu; show u < 4294967296; simp at hu; omega, fun _ => by simp; omega⟩, SlV_lit w [n] (by simp)⟩

theorem same_rb (va vb : Value) (N K : Nat) (w : World) (ha : RA w va N) (hb : RA w vb N) (hK : K ≤ 1000000) (hN : N < W32 ^ K) :
    Calls Try.prog 14 #[va, vb] w fun e w' => e = .returned (.bool true) ∧ Below w.heap.size w w' := by
  obtain ⟨xs, h1, h2⟩ := ha
  obtain ⟨ys, h3, h4⟩ := hb
  exact same_any va vb xs ys w h2 h4 (h1.uniq (by decide) h3) (Nat.le_trans ((h1.len (by decide) K).2 hN) hK)
set_option maxHeartbeats 2000000 in
theorem alive_true (w : World) : Calls Try.prog 11 #[] w fun e w' => e = .returned (.bool true) ∧ Below w.heap.size w w' := by
  have h1 := SlV_lit w [0, 0, 1] (by simp)
  have hb1 : Below w.heap.size w (w.alloc (.cells (C .u32 [0, 0, 1]).toArray 47)) := (Below.refl _ _).alloc (Nat.le_refl _) _
  have h1' := h1.below ((Below.refl _ (w.alloc (.cells (C .u32 [0, 0, 1]).toArray 47))).alloc (Nat.le_refl _) (.cells (C .u32 [10]).toArray 47))
  have h2 := SlV_lit (w.alloc (.cells (C .u32 [0, 0, 1]).toArray 47)) [10] (by simp)
  have hlo1 : Lo W32 [0, 0, 1] := by intro u hu; show u < 4294967296; simp at hu; omega
  have hlo2 : Lo W32 [10] := by intro u hu; show u < 4294967296; simp at hu; omega
  have hD := div_any _ _ [0, 0, 1] [10] _ h1' h2 hlo1 hlo2 (by simp) (by simp) (by simp [val])
  have e1 : val W32 [0, 0, 1] / val W32 [10] = 1844674407370955161 := by decide
  have e2 : val W32 [0, 0, 1] % val W32 [10] = 6 := by decide
  rw [e1, e2] at hD
  have hb2 : Below w.heap.size w ((w.alloc (.cells (C .u32 [0, 0, 1]).toArray 47)).alloc (.cells (C .u32 [10]).toArray 47)) := hb1.alloc (by simp) _
  simp only [C, List.map_cons, List.map_nil, List.length_cons, List.length_nil, Nat.zero_add, Nat.reduceAdd, World.size_alloc] at hD
  simp only [C, List.map_cons, List.map_nil] at hb2
  have HD := Away.mk hD; have HB2 := Away.mk hb2
  clear h1 h1' h2 hD hb1 hb2 hlo1 hlo2 e1 e2
  go_enter Try.func11, Try.ntmps11
  go_wp2_with fail
  refine HD.out.mono ?_
  rintro _ w1 ⟨v1, v2, rfl, ans1, ans2, hb3⟩
  have hB1 : Below w.heap.size w w1 := HB2.out.trans (hb3.mono (by omega))
  have HA1 := Away.mk ans1.ra; have HA2 := Away.mk ans2.ra; have HB1 := Away.mk hB1
  clear ans1 ans2 hb3 hB1 HD HB2
  have g1 := SlV_lit w1 [1] (by simp)
  have g1' := g1.below ((Below.refl _ (w1.alloc (.cells (C .u32 [1]).toArray 47))).alloc (Nat.le_refl _) (.cells (C .u32 [2]).toArray 47))
  have g2 := SlV_lit (w1.alloc (.cells (C .u32 [1]).toArray 47)) [2] (by simp)
  have hS := sub_any _ _ [1] [2] _ g1' g2 (by intro u hu; show u < 4294967296; simp at hu; omega) (by intro u hu; show u < 4294967296; simp at hu; omega) (by simp) (by simp)
  have e3 : errLt (val W32 [1]) (val W32 [2]) = 1 := by decide
  rw [e3] at hS
  have hb4 : Below w1.heap.size w1 ((w1.alloc (.cells (C .u32 [1]).toArray 47)).alloc (.cells (C .u32 [2]).toArray 47)) := ((Below.refl _ _).alloc (Nat.le_refl _) _).alloc (by simp) _
  simp only [C, List.map_cons, List.map_nil, List.length_cons, List.length_nil, Nat.zero_add, World.size_alloc] at hS
  simp only [C, List.map_cons, List.map_nil] at hb4
  have HS := Away.mk hS; have HB4 := Away.mk hb4
  clear g1 g1' g2 hS hb4 e3
  go_wp2_with fail
  refine HS.out.mono ?_
  rintro _ w2 ⟨v3, rfl, _, hb5⟩
  have hB12 : Below w1.heap.size w1 w2 := HB4.out.trans (hb5.mono (by omega))
  have HA1' := Away.mk (HA1.out.below hB12); have HA2' := Away.mk (HA2.out.below hB12); have HB2 := Away.mk (HB1.out.trans (hB12.mono HB1.out.size))
  clear hb5 hB12 HS HB4 HA1 HA2
  have HF := Away.mk (from_any 1844674407370955161 (by decide) w2)
  go_wp2_with fail
  refine HF.out.mono ?_
  rintro _ w3 ⟨v4, rfl, ans4, hb6⟩
  have HA4 := Away.mk ans4.ra; have HA1'' := Away.mk (HA1'.out.below hb6); have HA2'' := Away.mk (HA2'.out.below hb6); have HB3 := Away.mk (HB2.out.trans (hb6.mono HB2.out.size))
  clear ans4 hb6 HF HA1' HA2'
  go_wp2_with fail
  refine (same_rb _ _ _ 4 w3 HA1''.out HA4.out (by decide) (by decide)).mono ?_
  rintro _ w4 ⟨rfl, hb7⟩
  have HA5 := Away.mk (HA2''.out.below hb7); have HB4 := Away.mk (HB3.out.trans (hb7.mono HB3.out.size))
  clear hb7 HA1'' HA2'' HA4
  have h6 := ra_lit w4 6 (by decide) (by decide)
  have hb8 : Below w4.heap.size w4 (w4.alloc (.cells (C .u32 [6]).toArray 47)) := (Below.refl _ _).alloc (Nat.le_refl _) _
  have HSM := Away.mk (same_rb _ _ _ 4 _ (HA5.out.below hb8) h6 (by decide) (by decide))
  have HB8 := Away.mk (HB4.out.trans (hb8.mono HB4.out.size))
  clear h6 hb8
  go_wp2_with fail
  refine HSM.out.mono ?_
  rintro _ w5 ⟨rfl, hb9⟩
  go_wp2
  go_ret
  exact ⟨rfl, HB8.out.trans (hb9.mono HB8.out.size)⟩
end Go.Proofs.Ytmbmabgdhdbmeaa
