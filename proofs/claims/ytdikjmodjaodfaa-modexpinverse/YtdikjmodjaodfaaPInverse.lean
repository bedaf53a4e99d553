/-
  Proved: for every two lists of words a and m the law ModexpInverse returns true, and both lists read as before. No conditions.
-/
import Derived.Test.YtdikjmodjaodfaaRows
import Derived.Test.YtdikjmodjaodfaaLawK5
import Derived.WalkKit
import Derived.ProofKit
import Derived.OpenShut
import Derived.ShutString
import Derived.ChangeOld
import Derived.Below
namespace Go.Proofs.Ytdikjmodjaodfaa.modexpInverse
open Go.ChangeShapes Go.WideShapes Go.ChangeAt Go.RowKit
open Go.ChangeMaps (open_string shut_string)
set_option linter.unusedVariables false

theorem own : ownKnob Try.prog.godebug = none := by kernel_rfl
theorem laidOut : laidOutB Try.prog = true := by kernel_rfl

set_option maxHeartbeats 8000000 in
/-- The walk: the law returns true and writes nothing that was there. -/
theorem walk (a0 : Option Addr) (len0 cap0 : Nat) (z0 : List Int) (a1 : Option Addr) (len1 cap1 : Nat) (z1 : List Int) (w : World) (w0 : IsRow .u32 w a0 len0 cap0 z0) (w1 : IsRow .u32 w a1 len1 cap1 z1) :
    Calls Try.prog 6 #[.slice a0 len0 cap0, .slice a1 len1 cap1] w fun e w' => e = .returned (.bool true) ∧ Below w.heap.size w w' := by
  obtain ⟨xs0, hs0, hl0, hn0⟩ := open32 w0
  have hm0 : len0 ≤ maxLen := by have := hs0.len; rwa [C_length, hn0] at this
  have hi0 : (len0 : Int) ≤ 9223372036854775807 := by unfold maxLen at hm0; omega
  obtain ⟨xs1, hs1, hl1, hn1⟩ := open32 w1
  have hm1 : len1 ≤ maxLen := by have := hs1.len; rwa [C_length, hn1] at this
  have hi1 : (len1 : Int) ≤ 9223372036854775807 := by unfold maxLen at hm1; omega
  clear w0 w1
  by_cases h0 : 24 < (len0 : Int)
  · go_enter Try.func6, Try.ntmps6
    go_wp2_with (go_at_call 8; refine (alive5_true _).mono ?_; rintro e w' ⟨rfl, hb⟩)
    go_ret
    exact ⟨rfl, hb⟩
  by_cases h1 : 24 < (len1 : Int)
  · go_enter Try.func6, Try.ntmps6
    go_wp2_with (go_at_call 8; refine (alive5_true _).mono ?_; rintro e w' ⟨rfl, hb⟩)
    go_ret
    exact ⟨rfl, hb⟩
  have HN0 : Away (Num w (.slice a0 len0 cap0) (val W32 xs0) 24) := ⟨xs0, hs0, hl0, rfl, by omega⟩
  have HN1 : Away (Num w (.slice a1 len1 cap1) (val W32 xs1) 24) := ⟨xs1, hs1, hl1, rfl, by omega⟩
  generalize val W32 xs0 = N0 at *
  generalize val W32 xs1 = N1 at *
  have HB : Away (Below w.heap.size w w) := ⟨Below.refl _ _⟩
  clear hs0 hl0 hn0 hm0 hs1 hl1 hn1 hm1
  by_cases hz : N1 = 0
  · subst hz
    go_enter Try.func6, Try.ntmps6
    go_wp2_with fail
    refine (inverse_0 _ HN0.out HN1.out (by decide)).mono ?_
    rintro _ x1 ⟨rfl, hb⟩
    replace HN0 := Away.mk (HN0.out.below hb)
    replace HN1 := Away.mk (HN1.out.below hb)
    replace HB := Away.mk (HB.out.trans (hb.mono HB.out.size))
    clear hb
    go_wp2_with fail
    refine (bits_n _ HN1.out (by decide)).mono ?_
    rw [show bl 0 = 0 from rfl]
    rintro _ x2 ⟨rfl, hb⟩
    replace HN0 := Away.mk (HN0.out.below hb)
    replace HN1 := Away.mk (HN1.out.below hb)
    replace HB := Away.mk (HB.out.trans (hb.mono HB.out.size))
    clear hb
    go_wp2_with fail
    refine (alive5_true _).mono ?_
    rintro _ x3 ⟨rfl, hb⟩
    replace HN0 := Away.mk (HN0.out.below hb)
    replace HN1 := Away.mk (HN1.out.below hb)
    replace HB := Away.mk (HB.out.trans (hb.mono HB.out.size))
    clear hb
    go_wp2
    go_ret
    exact ⟨rfl, HB.out⟩
  have LM := Away.mk HN1.out.lt
  have hM0 : 0 < N1 := Nat.pos_of_ne_zero hz
  have hbl : bl N1 ≠ 0 := fun e => hz (by have := (bl_le N1 0).1 (by omega); omega)
  have d0 : (((bl N1 : Nat) : Int) == 0) = false := by simp; omega
  by_cases hg : Nat.gcd N0 N1 = 1
  · go_enter Try.func6, Try.ntmps6
    go_wp2_with fail
    refine (inverse_ok _ HN0.out HN1.out (by decide) hz hg).mono ?_
    rintro _ x1 ⟨v1, X, rfl, g1, g2, hb⟩
    replace HN0 := Away.mk (HN0.out.below hb)
    replace HN1 := Away.mk (HN1.out.below hb)
    replace HB := Away.mk (HB.out.trans (hb.mono HB.out.size))
    clear hb
    have HX := Away.mk (g1.num (Nat.lt_trans g2.1 LM.out))
    have G2 := Away.mk g2
    clear g1 g2
    go_wp2_with fail
    refine (bits_n _ HN1.out (by decide)).mono ?_
    rintro _ x2 ⟨rfl, hb⟩
    replace HN0 := Away.mk (HN0.out.below hb)
    replace HN1 := Away.mk (HN1.out.below hb)
    replace HX := Away.mk (HX.out.below hb)
    replace HB := Away.mk (HB.out.trans (hb.mono HB.out.size))
    clear hb
    clear hbl
    go_wp2_with fail
    refine (refgcd_n _ HN0.out HN1.out (by decide)).mono ?_
    rw [hg]
    rintro _ x3 ⟨v2, rfl, g1, hb⟩
    replace HN0 := Away.mk (HN0.out.below hb)
    replace HN1 := Away.mk (HN1.out.below hb)
    replace HX := Away.mk (HX.out.below hb)
    replace HB := Away.mk (HB.out.trans (hb.mono HB.out.size))
    clear hb
    have HG := Away.mk (g1.num (K := 1) (by decide))
    clear g1
    replace HN0 := Away.mk (HN0.out.below (below_lit _ (.int .u32 1)))
    replace HN1 := Away.mk (HN1.out.below (below_lit _ (.int .u32 1)))
    replace HX := Away.mk (HX.out.below (below_lit _ (.int .u32 1)))
    replace HG := Away.mk (HG.out.below (below_lit _ (.int .u32 1)))
    have H1 := Away.mk (num_lit x3 1 (by decide) (by decide))
    replace HB := Away.mk (HB.out.alloc HB.out.size (.cells #[.int .u32 1] 34))
    go_wp2_with fail
    refine (cmp_n _ HG.out H1.out (by decide) (by decide)).mono ?_
    rw [show cmpI 1 1 = 0 by decide]
    rintro _ x4 ⟨rfl, hb⟩
    replace HN0 := Away.mk (HN0.out.below hb)
    replace HN1 := Away.mk (HN1.out.below hb)
    replace HX := Away.mk (HX.out.below hb)
    replace HG := Away.mk (HG.out.below hb)
    replace H1 := Away.mk (H1.out.below hb)
    replace HB := Away.mk (HB.out.trans (hb.mono HB.out.size))
    clear hb
    clear HG
    clear H1
    replace HN0 := Away.mk (HN0.out.below (below_lit _ (.int .u32 1)))
    replace HN1 := Away.mk (HN1.out.below (below_lit _ (.int .u32 1)))
    replace HX := Away.mk (HX.out.below (below_lit _ (.int .u32 1)))
    have H1 := Away.mk (num_lit x4 1 (by decide) (by decide))
    replace HB := Away.mk (HB.out.alloc HB.out.size (.cells #[.int .u32 1] 34))
    go_wp2_with fail
    refine (reduce_n _ H1.out HN1.out (by decide) (by decide) hz).mono ?_
    rintro _ x5 ⟨v3, rfl, g1, hb⟩
    replace HN0 := Away.mk (HN0.out.below hb)
    replace HN1 := Away.mk (HN1.out.below hb)
    replace HX := Away.mk (HX.out.below hb)
    replace H1 := Away.mk (H1.out.below hb)
    replace HB := Away.mk (HB.out.trans (hb.mono HB.out.size))
    clear hb
    have H1M := Away.mk (g1.num (Nat.lt_trans (Nat.mod_lt 1 hM0) LM.out))
    clear g1
    clear H1
    go_wp2_with fail
    refine (mulm_n _ HN0.out HX.out HN1.out (by decide) (by decide) (by decide) hz).mono ?_
    rw [G2.out.2]
    rintro _ x6 ⟨v4, rfl, g1, hb⟩
    replace HN0 := Away.mk (HN0.out.below hb)
    replace HN1 := Away.mk (HN1.out.below hb)
    replace HX := Away.mk (HX.out.below hb)
    replace H1M := Away.mk (H1M.out.below hb)
    replace HB := Away.mk (HB.out.trans (hb.mono HB.out.size))
    clear hb
    have HP := Away.mk (g1.num (Nat.lt_trans (Nat.mod_lt 1 hM0) LM.out))
    clear g1
    go_wp2_with fail
    refine (alive5_true _).mono ?_
    rintro _ x7 ⟨rfl, hb⟩
    replace HN0 := Away.mk (HN0.out.below hb)
    replace HN1 := Away.mk (HN1.out.below hb)
    replace HX := Away.mk (HX.out.below hb)
    replace H1M := Away.mk (H1M.out.below hb)
    replace HP := Away.mk (HP.out.below hb)
    replace HB := Away.mk (HB.out.trans (hb.mono HB.out.size))
    clear hb
    go_wp2_with fail
    refine (cmp_n _ HX.out HN1.out (by decide) (by decide)).mono ?_
    rw [cmp_lt G2.out.1]
    rintro _ x8 ⟨rfl, hb⟩
    replace HN0 := Away.mk (HN0.out.below hb)
    replace HN1 := Away.mk (HN1.out.below hb)
    replace HX := Away.mk (HX.out.below hb)
    replace H1M := Away.mk (H1M.out.below hb)
    replace HP := Away.mk (HP.out.below hb)
    replace HB := Away.mk (HB.out.trans (hb.mono HB.out.size))
    clear hb
    go_wp2_with fail
    refine (cmp_n _ HP.out H1M.out (by decide) (by decide)).mono ?_
    rw [cmp_same]
    rintro _ x9 ⟨rfl, hb⟩
    replace HN0 := Away.mk (HN0.out.below hb)
    replace HN1 := Away.mk (HN1.out.below hb)
    replace HX := Away.mk (HX.out.below hb)
    replace H1M := Away.mk (H1M.out.below hb)
    replace HP := Away.mk (HP.out.below hb)
    replace HB := Away.mk (HB.out.trans (hb.mono HB.out.size))
    clear hb
    go_wp2
    go_ret
    exact ⟨rfl, HB.out⟩
  · have d1 := cmp_one hg
    have LG := Away.mk (Nat.lt_of_le_of_lt (Nat.gcd_le_right N0 hM0) LM.out)
    go_enter Try.func6, Try.ntmps6
    go_wp2_with fail
    refine (inverse_none _ HN0.out HN1.out (by decide) hz hg).mono ?_
    rintro _ x1 ⟨rfl, hb⟩
    replace HN0 := Away.mk (HN0.out.below hb)
    replace HN1 := Away.mk (HN1.out.below hb)
    replace HB := Away.mk (HB.out.trans (hb.mono HB.out.size))
    clear hb
    go_wp2_with fail
    refine (bits_n _ HN1.out (by decide)).mono ?_
    rintro _ x2 ⟨rfl, hb⟩
    replace HN0 := Away.mk (HN0.out.below hb)
    replace HN1 := Away.mk (HN1.out.below hb)
    replace HB := Away.mk (HB.out.trans (hb.mono HB.out.size))
    clear hb
    go_wp2_with fail
    refine (refgcd_n _ HN0.out HN1.out (by decide)).mono ?_
    rintro _ x3 ⟨v2, rfl, g1, hb⟩
    replace HN0 := Away.mk (HN0.out.below hb)
    replace HN1 := Away.mk (HN1.out.below hb)
    replace HB := Away.mk (HB.out.trans (hb.mono HB.out.size))
    clear hb
    have HG := Away.mk (g1.num LG.out)
    clear g1
    replace HN0 := Away.mk (HN0.out.below (below_lit _ (.int .u32 1)))
    replace HN1 := Away.mk (HN1.out.below (below_lit _ (.int .u32 1)))
    replace HG := Away.mk (HG.out.below (below_lit _ (.int .u32 1)))
    have H1 := Away.mk (num_lit x3 1 (by decide) (by decide))
    replace HB := Away.mk (HB.out.alloc HB.out.size (.cells #[.int .u32 1] 34))
    go_wp2_with fail
    refine (cmp_n _ HG.out H1.out (by decide) (by decide)).mono ?_
    rintro _ x4 ⟨rfl, hb⟩
    replace HN0 := Away.mk (HN0.out.below hb)
    replace HN1 := Away.mk (HN1.out.below hb)
    replace HG := Away.mk (HG.out.below hb)
    replace H1 := Away.mk (H1.out.below hb)
    replace HB := Away.mk (HB.out.trans (hb.mono HB.out.size))
    clear hb
    clear HG
    clear H1
    go_wp2_with fail
    refine (alive5_true _).mono ?_
    rintro _ x5 ⟨rfl, hb⟩
    replace HN0 := Away.mk (HN0.out.below hb)
    replace HN1 := Away.mk (HN1.out.below hb)
    replace HB := Away.mk (HB.out.trans (hb.mono HB.out.size))
    clear hb
    go_wp2
    go_ret
    exact ⟨rfl, HB.out⟩

set_option maxRecDepth 100000 in
theorem lifted (os : Os) (started : os.Started) (H : Type) (enc : TypeId × Value → H) :
    ReturnsInHanded {} Try.checked os 6 .any (Rows.modexpInverseSpec.pre6 enc Try.prog Try.f6 Rows.modexpInverseRow.domain false) (Rows.modexpInverseSpec.post enc Try.prog Try.f6 false true false false) := by
  refine returnsInHanded_of_change (C := Try.checked) own started (by kernel_rfl) Try.func6
    (ChangeSpec.witness6 (enc := enc) (C := Try.checked) false ⟨#[], #[.slice none 0 0, .slice none 0 0], []⟩ 8 (by kernel_rfl) (by kernel_rfl) (by kernel_rfl) (by kernel_rfl)) ?_
  intro W base args ds gs before hval0 hW hcnd _
  have hval : ∀ (j : Nat) t v, Try.f6.params[j]? = some t → args[j]? = some v → Value.okWide Try.prog W .any base t v := hval0
  have hW' := hW
  obtain ⟨p, q, hA0, hV, rfl, hfz, hnd⟩ := hW
  have hA : DataW.TrodAll enc Try.prog W 0 (fun _ => true) true Try.f6.params.toList args.toList ds p := hA0
  rw [Try.params6] at hA hval
  obtain ⟨v0, vs0, d0, ds0, p0, q0, hargs, rfl, rfl, h0, r0⟩ := trodAll_cons hA
  obtain ⟨v1, vs1, d1, ds1, p1, q1, rfl, rfl, rfl, h1, r1⟩ := trodAll_cons r0
  obtain ⟨rfl, rfl, rfl⟩ := trodAll_nil r1
  obtain rfl : args = #[v0, v1] := by cases args; simp_all
  obtain ⟨rfl, rfl⟩ := trodVars_none hV
  obtain ⟨a0, len0, cap0, rfl⟩ := okWide_slice Try.underlying23 (hval 0 23 v0 rfl rfl)
  have k0 := h0
  have lt0 : ∀ x ∈ p0, x.block < W.heap.size := by obtain ⟨m, hm⟩ := k0; exact DataW.trod_lt m _ _ _ hm
  obtain ⟨z0, w0⟩ : ∃ zs, IsRow .u32 W a0 len0 cap0 zs := by
    obtain ⟨fuel, hf⟩ := h0
    rcases open_ints Try.underlying23 Try.underlying34 (by kernel_rfl) hf with ⟨hcs, _⟩ | ⟨x, l, c, zs, hcs, _, hl, hm, hz, _, hcell, hwz⟩
    · simp [Value.cells] at hcs
      obtain ⟨rfl, rfl, rfl⟩ := hcs
      exact ⟨[], .inl ⟨rfl, rfl, rfl, rfl⟩⟩
    · simp [Value.cells] at hcs
      obtain ⟨rfl, rfl, rfl⟩ := hcs
      exact ⟨zs, .inr ⟨_, rfl, hl, hm, by simpa using hz, hcell, hwz⟩⟩
  obtain ⟨a1, len1, cap1, rfl⟩ := okWide_slice Try.underlying23 (hval 1 23 v1 rfl rfl)
  have k1 := h1
  have lt1 : ∀ x ∈ p1, x.block < W.heap.size := by obtain ⟨m, hm⟩ := k1; exact DataW.trod_lt m _ _ _ hm
  obtain ⟨z1, w1⟩ : ∃ zs, IsRow .u32 W a1 len1 cap1 zs := by
    obtain ⟨fuel, hf⟩ := h1
    rcases open_ints Try.underlying23 Try.underlying34 (by kernel_rfl) hf with ⟨hcs, _⟩ | ⟨x, l, c, zs, hcs, _, hl, hm, hz, _, hcell, hwz⟩
    · simp [Value.cells] at hcs
      obtain ⟨rfl, rfl, rfl⟩ := hcs
      exact ⟨[], .inl ⟨rfl, rfl, rfl, rfl⟩⟩
    · simp [Value.cells] at hcs
      obtain ⟨rfl, rfl, rfl⟩ := hcs
      exact ⟨zs, .inr ⟨_, rfl, hl, hm, by simpa using hz, hcell, hwz⟩⟩
  clear hA0 hval0
  refine (walk a0 len0 cap0 z0 a1 len1 cap1 z1 W w0 w1).mono fun e W' ⟨he, bel⟩ => ?_
  subst he
  exact ⟨_, rfl, _, _, _, [], _, [], hW', trodAll_mk1 (shut_bool Try.underlying4 _), (trodAll_cons_mk (Below.trod laidOut (by kernel_rfl) (of_decide_eq_true (by kernel_rfl)) k0 bel lt0) (trodAll_cons_mk (Below.trod laidOut (by kernel_rfl) (of_decide_eq_true (by kernel_rfl)) k1 bel lt1) trodAll_mk0)), rfl, bel.frame _, fun h => by cases h⟩

theorem over : Rows.modexpInverseRow.holds Try.pinned (OpenSpec.ofChange Rows.modexpInverseSpec) :=
  OpenClaim.holds_of_wide 6 Try.f6 rfl rfl rfl rfl rfl rfl rfl ⟨rfl, rfl, rfl, rfl, rfl⟩ rfl rfl rfl rfl rfl (by kernel_rfl) Try.func6 (by kernel_rfl)
    (of_decide_eq_true (by kernel_rfl)) (by unfold Func.isWrapper; first | (rw [if_pos (by decide +kernel)]; kernel_rfl) | (rw [if_neg (by decide +kernel)]; exact ⟨rfl, rfl⟩))
    (fun os started H enc _ => lifted os started H enc)

end Go.Proofs.Ytdikjmodjaodfaa.modexpInverse
namespace Go.Proofs.Ytdikjmodjaodfaa
/-- The given statement. -/
theorem modexpInverse_proved : Rows.ModexpInverseSaid := modexpInverse.over
end Go.Proofs.Ytdikjmodjaodfaa
