/-
  Proved: for every two lists of words a and b the law ModexpGcd returns true, and both lists read as before. No conditions.
-/
import Derived.Test.YtdikjmodjaodfaaRows
import Derived.Test.YtdikjmodjaodfaaLawK5
import Derived.WalkKit
import Derived.ProofKit
import Derived.OpenShut
import Derived.ShutString
import Derived.ChangeOld
import Derived.Below
namespace Go.Proofs.Ytdikjmodjaodfaa.modexpGcd
open Go.ChangeShapes Go.WideShapes Go.ChangeAt Go.RowKit
open Go.ChangeMaps (open_string shut_string)
set_option linter.unusedVariables false

theorem own : ownKnob Try.prog.godebug = none := by kernel_rfl
theorem laidOut : laidOutB Try.prog = true := by kernel_rfl

set_option maxHeartbeats 8000000 in
/-- The walk: the law returns true and writes nothing that was there. -/
theorem walk (a0 : Option Addr) (len0 cap0 : Nat) (z0 : List Int) (a1 : Option Addr) (len1 cap1 : Nat) (z1 : List Int) (w : World) (w0 : IsRow .u32 w a0 len0 cap0 z0) (w1 : IsRow .u32 w a1 len1 cap1 z1) :
    Calls Try.prog 5 #[.slice a0 len0 cap0, .slice a1 len1 cap1] w fun e w' => e = .returned (.bool true) ∧ Below w.heap.size w w' := by
  obtain ⟨xs0, hs0, hl0, hn0⟩ := open32 w0
  have hm0 : len0 ≤ maxLen := by have := hs0.len; rwa [C_length, hn0] at this
  have hi0 : (len0 : Int) ≤ 9223372036854775807 := by unfold maxLen at hm0; omega
  obtain ⟨xs1, hs1, hl1, hn1⟩ := open32 w1
  have hm1 : len1 ≤ maxLen := by have := hs1.len; rwa [C_length, hn1] at this
  have hi1 : (len1 : Int) ≤ 9223372036854775807 := by unfold maxLen at hm1; omega
  clear w0 w1
  by_cases h0 : 24 < (len0 : Int)
  · go_enter Try.func5, Try.ntmps5
    go_wp2_with (go_at_call 8; refine (alive5_true _).mono ?_; rintro e w' ⟨rfl, hb⟩)
    go_ret
    exact ⟨rfl, hb⟩
  by_cases h1 : 24 < (len1 : Int)
  · go_enter Try.func5, Try.ntmps5
    go_wp2_with (go_at_call 8; refine (alive5_true _).mono ?_; rintro e w' ⟨rfl, hb⟩)
    go_ret
    exact ⟨rfl, hb⟩
  have HN0 : Away (Num w (.slice a0 len0 cap0) (val W32 xs0) 24) := ⟨xs0, hs0, hl0, rfl, by omega⟩
  have HN1 : Away (Num w (.slice a1 len1 cap1) (val W32 xs1) 24) := ⟨xs1, hs1, hl1, rfl, by omega⟩
  generalize val W32 xs0 = N0 at *
  generalize val W32 xs1 = N1 at *
  have HB : Away (Below w.heap.size w w) := ⟨Below.refl _ _⟩
  clear hs0 hl0 hn0 hm0 hs1 hl1 hn1 hm1
  have LG : Away (Nat.gcd N0 N1 < W32 ^ 24) := by
    rcases Nat.eq_zero_or_pos N1 with h | h
    · subst h; rw [Nat.gcd_zero_right]; exact ⟨HN0.out.lt⟩
    · exact ⟨Nat.lt_of_le_of_lt (Nat.gcd_le_right N0 h) HN1.out.lt⟩
  go_enter Try.func5, Try.ntmps5
  go_wp2_with fail
  refine (alive5_true _).mono ?_
  rintro _ x1 ⟨rfl, hb⟩
  replace HN0 := Away.mk (HN0.out.below hb)
  replace HN1 := Away.mk (HN1.out.below hb)
  replace HB := Away.mk (HB.out.trans (hb.mono HB.out.size))
  clear hb
  go_wp2_with fail
  refine (gcd_n _ HN0.out HN1.out (by decide)).mono ?_
  rintro _ x2 ⟨v1, rfl, g1, hb⟩
  replace HN0 := Away.mk (HN0.out.below hb)
  replace HN1 := Away.mk (HN1.out.below hb)
  replace HB := Away.mk (HB.out.trans (hb.mono HB.out.size))
  clear hb
  have HG1 := Away.mk (g1)
  clear g1
  go_wp2_with fail
  refine (refgcd_n _ HN0.out HN1.out (by decide)).mono ?_
  rintro _ x3 ⟨v2, rfl, g1, hb⟩
  replace HN0 := Away.mk (HN0.out.below hb)
  replace HN1 := Away.mk (HN1.out.below hb)
  replace HG1 := Away.mk (HG1.out.below hb)
  replace HB := Away.mk (HB.out.trans (hb.mono HB.out.size))
  clear hb
  have HG2 := Away.mk (g1)
  clear g1
  go_wp2_with fail
  refine (same_rb _ _ _ 24 _ HG1.out HG2.out (by decide) LG.out).mono ?_
  rintro _ x4 ⟨rfl, hb⟩
  replace HN0 := Away.mk (HN0.out.below hb)
  replace HN1 := Away.mk (HN1.out.below hb)
  replace HG1 := Away.mk (HG1.out.below hb)
  replace HG2 := Away.mk (HG2.out.below hb)
  replace HB := Away.mk (HB.out.trans (hb.mono HB.out.size))
  clear hb
  clear HG1
  clear HG2
  go_wp2_with fail
  refine (gcd_n _ HN1.out HN0.out (by decide)).mono ?_
  rw [Nat.gcd_comm N1 N0]
  rintro _ x5 ⟨v3, rfl, g1, hb⟩
  replace HN0 := Away.mk (HN0.out.below hb)
  replace HN1 := Away.mk (HN1.out.below hb)
  replace HB := Away.mk (HB.out.trans (hb.mono HB.out.size))
  clear hb
  have HG1 := Away.mk (g1)
  clear g1
  go_wp2_with fail
  refine (refgcd_n _ HN0.out HN1.out (by decide)).mono ?_
  rintro _ x6 ⟨v4, rfl, g1, hb⟩
  replace HN0 := Away.mk (HN0.out.below hb)
  replace HN1 := Away.mk (HN1.out.below hb)
  replace HG1 := Away.mk (HG1.out.below hb)
  replace HB := Away.mk (HB.out.trans (hb.mono HB.out.size))
  clear hb
  have HG2 := Away.mk (g1)
  clear g1
  go_wp2_with fail
  refine (same_rb _ _ _ 24 _ HG1.out HG2.out (by decide) LG.out).mono ?_
  rintro _ x7 ⟨rfl, hb⟩
  replace HN0 := Away.mk (HN0.out.below hb)
  replace HN1 := Away.mk (HN1.out.below hb)
  replace HG1 := Away.mk (HG1.out.below hb)
  replace HG2 := Away.mk (HG2.out.below hb)
  replace HB := Away.mk (HB.out.trans (hb.mono HB.out.size))
  clear hb
  go_wp2
  go_ret
  exact ⟨rfl, HB.out⟩

set_option maxRecDepth 100000 in
theorem lifted (os : Os) (started : os.Started) (H : Type) (enc : TypeId × Value → H) :
    ReturnsInHanded {} Try.checked os 5 .any (Rows.modexpGcdSpec.pre6 enc Try.prog Try.f5 Rows.modexpGcdRow.domain false) (Rows.modexpGcdSpec.post enc Try.prog Try.f5 false true false false) := by
  refine returnsInHanded_of_change (C := Try.checked) own started (by kernel_rfl) Try.func5
    (ChangeSpec.witness6 (enc := enc) (C := Try.checked) false ⟨#[], #[.slice none 0 0, .slice none 0 0], []⟩ 8 (by kernel_rfl) (by kernel_rfl) (by kernel_rfl) (by kernel_rfl)) ?_
  intro W base args ds gs before hval0 hW hcnd _
  have hval : ∀ (j : Nat) t v, Try.f5.params[j]? = some t → args[j]? = some v → Value.okWide Try.prog W .any base t v := hval0
  have hW' := hW
  obtain ⟨p, q, hA0, hV, rfl, hfz, hnd⟩ := hW
  have hA : DataW.TrodAll enc Try.prog W 0 (fun _ => true) true Try.f5.params.toList args.toList ds p := hA0
  rw [Try.params5] at hA hval
  obtain ⟨v0, vs0, d0, ds0, p0, q0, hargs, rfl, rfl, h0, r0⟩ := trodAll_cons hA
  obtain ⟨v1, vs1, d1, ds1, p1, q1, rfl, rfl, rfl, h1, r1⟩ := trodAll_cons r0
  obtain ⟨rfl, rfl, rfl⟩ := trodAll_nil r1
  obtain rfl : args = #[v0, v1] := by cases args; simp_all
  obtain ⟨rfl, rfl⟩ := trodVars_none hV
  obtain ⟨a0, len0, cap0, rfl⟩ := okWide_slice Try.underlying23 (hval 0 23 v0 rfl rfl)
  have k0 := h0
  have lt0 : ∀ x ∈ p0, x.block < W.heap.size := by obtain ⟨m, hm⟩ := k0; exact DataW.trod_lt m _ _ _ hm
  obtain ⟨z0, w0⟩ : ∃ zs, IsRow .u32 W a0 len0 cap0 zs := by
    obtain ⟨fuel, hf⟩ := h0
    rcases open_ints Try.underlying23 Try.underlying34 (by kernel_rfl) hf with ⟨hcs, _⟩ | ⟨x, l, c, zs, hcs, _, hl, hm, hz, _, hcell, hwz⟩
    · simp [Value.cells] at hcs
      obtain ⟨rfl, rfl, rfl⟩ := hcs
      exact ⟨[], .inl ⟨rfl, rfl, rfl, rfl⟩⟩
    · simp [Value.cells] at hcs
      obtain ⟨rfl, rfl, rfl⟩ := hcs
      exact ⟨zs, .inr ⟨_, rfl, hl, hm, by simpa using hz, hcell, hwz⟩⟩
  obtain ⟨a1, len1, cap1, rfl⟩ := okWide_slice Try.underlying23 (hval 1 23 v1 rfl rfl)
  have k1 := h1
  have lt1 : ∀ x ∈ p1, x.block < W.heap.size := by obtain ⟨m, hm⟩ := k1; exact DataW.trod_lt m _ _ _ hm
  obtain ⟨z1, w1⟩ : ∃ zs, IsRow .u32 W a1 len1 cap1 zs := by
    obtain ⟨fuel, hf⟩ := h1
    rcases open_ints Try.underlying23 Try.underlying34 (by kernel_rfl) hf with ⟨hcs, _⟩ | ⟨x, l, c, zs, hcs, _, hl, hm, hz, _, hcell, hwz⟩
    · simp [Value.cells] at hcs
      obtain ⟨rfl, rfl, rfl⟩ := hcs
      exact ⟨[], .inl ⟨rfl, rfl, rfl, rfl⟩⟩
    · simp [Value.cells] at hcs
      obtain ⟨rfl, rfl, rfl⟩ := hcs
      exact ⟨zs, .inr ⟨_, rfl, hl, hm, by simpa using hz, hcell, hwz⟩⟩
  clear hA0 hval0
  refine (walk a0 len0 cap0 z0 a1 len1 cap1 z1 W w0 w1).mono fun e W' ⟨he, bel⟩ => ?_
  subst he
  exact ⟨_, rfl, _, _, _, [], _, [], hW', trodAll_mk1 (shut_bool Try.underlying4 _), (trodAll_cons_mk (Below.trod laidOut (by kernel_rfl) (of_decide_eq_true (by kernel_rfl)) k0 bel lt0) (trodAll_cons_mk (Below.trod laidOut (by kernel_rfl) (of_decide_eq_true (by kernel_rfl)) k1 bel lt1) trodAll_mk0)), rfl, bel.frame _, fun h => by cases h⟩

theorem over : Rows.modexpGcdRow.holds Try.pinned (OpenSpec.ofChange Rows.modexpGcdSpec) :=
  OpenClaim.holds_of_wide 5 Try.f5 rfl rfl rfl rfl rfl rfl rfl ⟨rfl, rfl, rfl, rfl, rfl⟩ rfl rfl rfl rfl rfl (by kernel_rfl) Try.func5 (by kernel_rfl)
    (of_decide_eq_true (by kernel_rfl)) (by unfold Func.isWrapper; first | (rw [if_pos (by decide +kernel)]; kernel_rfl) | (rw [if_neg (by decide +kernel)]; exact ⟨rfl, rfl⟩))
    (fun os started H enc _ => lifted os started H enc)

end Go.Proofs.Ytdikjmodjaodfaa.modexpGcd
namespace Go.Proofs.Ytdikjmodjaodfaa
/-- The given statement. -/
theorem modexpGcd_proved : Rows.ModexpGcdSaid := modexpGcd.over
end Go.Proofs.Ytdikjmodjaodfaa
