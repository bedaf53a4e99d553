/-
  Proved: for every three lists of words a, n and m the law ModexpExp returns true, and the lists read as before. No conditions.
-/
import Derived.Test.YtdikjmodjaodfaaRows
import Derived.Test.YtdikjmodjaodfaaLawK5
import Derived.WalkKit
import Derived.ProofKit
import Derived.OpenShut
import Derived.ShutString
import Derived.ChangeOld
import Derived.Below
namespace Go.Proofs.Ytdikjmodjaodfaa.modexpExp
open Go.ChangeShapes Go.WideShapes Go.ChangeAt Go.RowKit
open Go.ChangeMaps (open_string shut_string)
set_option linter.unusedVariables false

theorem own : ownKnob Try.prog.godebug = none := by kernel_rfl
theorem laidOut : laidOutB Try.prog = true := by kernel_rfl

set_option maxHeartbeats 8000000 in
/-- The walk: the law returns true and writes nothing that was there. -/
theorem walk (a0 : Option Addr) (len0 cap0 : Nat) (z0 : List Int) (a1 : Option Addr) (len1 cap1 : Nat) (z1 : List Int) (a2 : Option Addr) (len2 cap2 : Nat) (z2 : List Int) (w : World) (w0 : IsRow .u32 w a0 len0 cap0 z0) (w1 : IsRow .u32 w a1 len1 cap1 z1) (w2 : IsRow .u32 w a2 len2 cap2 z2) :
    Calls Try.prog 4 #[.slice a0 len0 cap0, .slice a1 len1 cap1, .slice a2 len2 cap2] w fun e w' => e = .returned (.bool true) ∧ Below w.heap.size w w' := by
  obtain ⟨xs0, hs0, hl0, hn0⟩ := open32 w0
  have hm0 : len0 ≤ maxLen := by have := hs0.len; rwa [C_length, hn0] at this
  have hi0 : (len0 : Int) ≤ 9223372036854775807 := by unfold maxLen at hm0; omega
  obtain ⟨xs1, hs1, hl1, hn1⟩ := open32 w1
  have hm1 : len1 ≤ maxLen := by have := hs1.len; rwa [C_length, hn1] at this
  have hi1 : (len1 : Int) ≤ 9223372036854775807 := by unfold maxLen at hm1; omega
  obtain ⟨xs2, hs2, hl2, hn2⟩ := open32 w2
  have hm2 : len2 ≤ maxLen := by have := hs2.len; rwa [C_length, hn2] at this
  have hi2 : (len2 : Int) ≤ 9223372036854775807 := by unfold maxLen at hm2; omega
  clear w0 w1 w2
  by_cases h0 : 24 < (len0 : Int)
  · go_enter Try.func4, Try.ntmps4
    go_wp2_with (go_at_call 8; refine (alive5_true _).mono ?_; rintro e w' ⟨rfl, hb⟩)
    go_ret
    exact ⟨rfl, hb⟩
  by_cases h1 : 4 < (len1 : Int)
  · go_enter Try.func4, Try.ntmps4
    go_wp2_with (go_at_call 8; refine (alive5_true _).mono ?_; rintro e w' ⟨rfl, hb⟩)
    go_ret
    exact ⟨rfl, hb⟩
  by_cases h2 : 24 < (len2 : Int)
  · go_enter Try.func4, Try.ntmps4
    go_wp2_with (go_at_call 8; refine (alive5_true _).mono ?_; rintro e w' ⟨rfl, hb⟩)
    go_ret
    exact ⟨rfl, hb⟩
  have HN0 : Away (Num w (.slice a0 len0 cap0) (val W32 xs0) 24) := ⟨xs0, hs0, hl0, rfl, by omega⟩
  have HN1 : Away (Num w (.slice a1 len1 cap1) (val W32 xs1) 4) := ⟨xs1, hs1, hl1, rfl, by omega⟩
  have HN2 : Away (Num w (.slice a2 len2 cap2) (val W32 xs2) 24) := ⟨xs2, hs2, hl2, rfl, by omega⟩
  generalize val W32 xs1 = N1 at *
  generalize val W32 xs2 = N2 at *
  have k0 : xs0.length ≤ 24 := by omega
  have hA : Below w.heap.size w (w.alloc (.cells #[] 34)) := (Below.refl _ _).alloc (Nat.le_refl _) _
  have hsA := hs0.below hA
  have hoA := own_empty w w.heap.size 34 (Nat.le_refl _)
  have HL0 := Away.mk hl0
  have HB : Away (Below w.heap.size w w) := ⟨Below.refl _ _⟩
  have HC0 := Away.mk hs0
  clear hs0 hl0 hn0 hm0 hs1 hl1 hn1 hm1 hs2 hl2 hn2 hm2
  by_cases hz : N2 = 0
  · subst hz
    go_enter Try.func4, Try.ntmps4
    go_wp2_with (at_builtin; refine wpList_append_sl rfl (.tmp 26) (.tmp 27) 23 rfl w.heap.size 34 (.int .u32 0) 4 Try.underlying23 Try.info34 rfl _ 0 [] rfl hoA _ (C .u32 xs0) rfl hsA (C_one _ _) (by rw [C_length]; unfold maxLen; omega) (by rw [C_length]; omega) hA.size ?_)
    intro v5 y1 hown hg1
    have hb : Below w.heap.size w y1 := hA.grown hg1 hA.size (fun k hk => (hoA.lt k hk).1)
    have HO := Away.mk (SlV.ofOwn hown)
    have HP : Away (Num y1 v5 (val W32 xs0) 24) := ⟨xs0, HO.out, HL0.out, rfl, k0⟩
    replace HC0 := Away.mk (HC0.out.below hb); replace HN0 := Away.mk (HN0.out.below hb); replace HN1 := Away.mk (HN1.out.below hb); replace HN2 := Away.mk (HN2.out.below hb); replace HB := Away.mk hb
    clear hown hg1 hb hoA hsA hA
    go_wp2_with fail
    refine (exp_0 (A := 0) (N := 0) (K := 0) (L := 0) _ HN2.out (by decide)).mono ?_
    rintro _ x1 ⟨rfl, hb⟩
    replace HN0 := Away.mk (HN0.out.below hb)
    replace HN1 := Away.mk (HN1.out.below hb)
    replace HN2 := Away.mk (HN2.out.below hb)
    replace HC0 := Away.mk (HC0.out.below hb)
    replace HO := Away.mk (HO.out.below hb)
    replace HP := Away.mk (HP.out.below hb)
    replace HB := Away.mk (HB.out.trans (hb.mono HB.out.size))
    clear hb
    go_wp2_with fail
    refine (refexp_0 _ HN2.out (by decide)).mono ?_
    rintro _ x2 ⟨rfl, hb⟩
    replace HN0 := Away.mk (HN0.out.below hb)
    replace HN1 := Away.mk (HN1.out.below hb)
    replace HN2 := Away.mk (HN2.out.below hb)
    replace HC0 := Away.mk (HC0.out.below hb)
    replace HO := Away.mk (HO.out.below hb)
    replace HP := Away.mk (HP.out.below hb)
    replace HB := Away.mk (HB.out.trans (hb.mono HB.out.size))
    clear hb
    go_wp2_with fail
    refine (alive5_true _).mono ?_
    rintro _ x3 ⟨rfl, hb⟩
    replace HN0 := Away.mk (HN0.out.below hb)
    replace HN1 := Away.mk (HN1.out.below hb)
    replace HN2 := Away.mk (HN2.out.below hb)
    replace HC0 := Away.mk (HC0.out.below hb)
    replace HO := Away.mk (HO.out.below hb)
    replace HP := Away.mk (HP.out.below hb)
    replace HB := Away.mk (HB.out.trans (hb.mono HB.out.size))
    clear hb
    go_wp2_with fail
    refine (same_any _ _ [] [] _ (SlV.nil _) (SlV.nil _) rfl (by simp)).mono ?_
    rintro _ x4 ⟨rfl, hb⟩
    replace HN0 := Away.mk (HN0.out.below hb)
    replace HN1 := Away.mk (HN1.out.below hb)
    replace HN2 := Away.mk (HN2.out.below hb)
    replace HC0 := Away.mk (HC0.out.below hb)
    replace HO := Away.mk (HO.out.below hb)
    replace HP := Away.mk (HP.out.below hb)
    replace HB := Away.mk (HB.out.trans (hb.mono HB.out.size))
    clear hb
    go_wp2_with fail
    refine (same_any _ _ xs0 xs0 _ HO.out HC0.out rfl (by omega)).mono ?_
    rintro _ x5 ⟨rfl, hb⟩
    replace HN0 := Away.mk (HN0.out.below hb)
    replace HN1 := Away.mk (HN1.out.below hb)
    replace HN2 := Away.mk (HN2.out.below hb)
    replace HC0 := Away.mk (HC0.out.below hb)
    replace HO := Away.mk (HO.out.below hb)
    replace HP := Away.mk (HP.out.below hb)
    replace HB := Away.mk (HB.out.trans (hb.mono HB.out.size))
    clear hb
    go_wp2
    go_ret
    exact ⟨rfl, HB.out⟩
  · have hM0 : 0 < N2 := Nat.pos_of_ne_zero hz
    have LP := Away.mk (Nat.lt_trans (Nat.mod_lt (val W32 xs0 ^ N1) hM0) HN2.out.lt)
    go_enter Try.func4, Try.ntmps4
    go_wp2_with (at_builtin; refine wpList_append_sl rfl (.tmp 26) (.tmp 27) 23 rfl w.heap.size 34 (.int .u32 0) 4 Try.underlying23 Try.info34 rfl _ 0 [] rfl hoA _ (C .u32 xs0) rfl hsA (C_one _ _) (by rw [C_length]; unfold maxLen; omega) (by rw [C_length]; omega) hA.size ?_)
    intro v5 y1 hown hg1
    have hb : Below w.heap.size w y1 := hA.grown hg1 hA.size (fun k hk => (hoA.lt k hk).1)
    have HO := Away.mk (SlV.ofOwn hown)
    have HP : Away (Num y1 v5 (val W32 xs0) 24) := ⟨xs0, HO.out, HL0.out, rfl, k0⟩
    replace HC0 := Away.mk (HC0.out.below hb); replace HN0 := Away.mk (HN0.out.below hb); replace HN1 := Away.mk (HN1.out.below hb); replace HN2 := Away.mk (HN2.out.below hb); replace HB := Away.mk hb
    clear hown hg1 hb hoA hsA hA
    go_wp2_with fail
    refine (exp_n _ HP.out HN1.out HN2.out (by decide) (by decide) (by decide) hz).mono ?_
    rintro _ x1 ⟨v1, rfl, g1, hb⟩
    replace HN0 := Away.mk (HN0.out.below hb)
    replace HN1 := Away.mk (HN1.out.below hb)
    replace HN2 := Away.mk (HN2.out.below hb)
    replace HC0 := Away.mk (HC0.out.below hb)
    replace HO := Away.mk (HO.out.below hb)
    replace HP := Away.mk (HP.out.below hb)
    replace HB := Away.mk (HB.out.trans (hb.mono HB.out.size))
    clear hb
    have HR1 := Away.mk (g1)
    clear g1
    go_wp2_with fail
    refine (refexp_n _ HN0.out HN1.out HN2.out (by decide) (by decide) (by decide) hz).mono ?_
    rintro _ x2 ⟨v2, rfl, g1, hb⟩
    replace HN0 := Away.mk (HN0.out.below hb)
    replace HN1 := Away.mk (HN1.out.below hb)
    replace HN2 := Away.mk (HN2.out.below hb)
    replace HC0 := Away.mk (HC0.out.below hb)
    replace HO := Away.mk (HO.out.below hb)
    replace HP := Away.mk (HP.out.below hb)
    replace HR1 := Away.mk (HR1.out.below hb)
    replace HB := Away.mk (HB.out.trans (hb.mono HB.out.size))
    clear hb
    have HR2 := Away.mk (g1)
    clear g1
    go_wp2_with fail
    refine (alive5_true _).mono ?_
    rintro _ x3 ⟨rfl, hb⟩
    replace HN0 := Away.mk (HN0.out.below hb)
    replace HN1 := Away.mk (HN1.out.below hb)
    replace HN2 := Away.mk (HN2.out.below hb)
    replace HC0 := Away.mk (HC0.out.below hb)
    replace HO := Away.mk (HO.out.below hb)
    replace HP := Away.mk (HP.out.below hb)
    replace HR1 := Away.mk (HR1.out.below hb)
    replace HR2 := Away.mk (HR2.out.below hb)
    replace HB := Away.mk (HB.out.trans (hb.mono HB.out.size))
    clear hb
    go_wp2_with fail
    refine (same_rb _ _ _ 24 _ HR1.out HR2.out (by decide) LP.out).mono ?_
    rintro _ x4 ⟨rfl, hb⟩
    replace HN0 := Away.mk (HN0.out.below hb)
    replace HN1 := Away.mk (HN1.out.below hb)
    replace HN2 := Away.mk (HN2.out.below hb)
    replace HC0 := Away.mk (HC0.out.below hb)
    replace HO := Away.mk (HO.out.below hb)
    replace HP := Away.mk (HP.out.below hb)
    replace HR1 := Away.mk (HR1.out.below hb)
    replace HR2 := Away.mk (HR2.out.below hb)
    replace HB := Away.mk (HB.out.trans (hb.mono HB.out.size))
    clear hb
    go_wp2_with fail
    refine (same_any _ _ xs0 xs0 _ HO.out HC0.out rfl (by omega)).mono ?_
    rintro _ x5 ⟨rfl, hb⟩
    replace HN0 := Away.mk (HN0.out.below hb)
    replace HN1 := Away.mk (HN1.out.below hb)
    replace HN2 := Away.mk (HN2.out.below hb)
    replace HC0 := Away.mk (HC0.out.below hb)
    replace HO := Away.mk (HO.out.below hb)
    replace HP := Away.mk (HP.out.below hb)
    replace HR1 := Away.mk (HR1.out.below hb)
    replace HR2 := Away.mk (HR2.out.below hb)
    replace HB := Away.mk (HB.out.trans (hb.mono HB.out.size))
    clear hb
    go_wp2
    go_ret
    exact ⟨rfl, HB.out⟩

set_option maxRecDepth 100000 in
theorem lifted (os : Os) (started : os.Started) (H : Type) (enc : TypeId × Value → H) :
    ReturnsInHanded {} Try.checked os 4 .any (Rows.modexpExpSpec.pre6 enc Try.prog Try.f4 Rows.modexpExpRow.domain false) (Rows.modexpExpSpec.post enc Try.prog Try.f4 false true false false) := by
  refine returnsInHanded_of_change (C := Try.checked) own started (by kernel_rfl) Try.func4
    (ChangeSpec.witness6 (enc := enc) (C := Try.checked) false ⟨#[], #[.slice none 0 0, .slice none 0 0, .slice none 0 0], []⟩ 8 (by kernel_rfl) (by kernel_rfl) (by kernel_rfl) (by kernel_rfl)) ?_
  intro W base args ds gs before hval0 hW hcnd _
  have hval : ∀ (j : Nat) t v, Try.f4.params[j]? = some t → args[j]? = some v → Value.okWide Try.prog W .any base t v := hval0
  have hW' := hW
  obtain ⟨p, q, hA0, hV, rfl, hfz, hnd⟩ := hW
  have hA : DataW.TrodAll enc Try.prog W 0 (fun _ => true) true Try.f4.params.toList args.toList ds p := hA0
  rw [Try.params4] at hA hval
  obtain ⟨v0, vs0, d0, ds0, p0, q0, hargs, rfl, rfl, h0, r0⟩ := trodAll_cons hA
  obtain ⟨v1, vs1, d1, ds1, p1, q1, rfl, rfl, rfl, h1, r1⟩ := trodAll_cons r0
  obtain ⟨v2, vs2, d2, ds2, p2, q2, rfl, rfl, rfl, h2, r2⟩ := trodAll_cons r1
  obtain ⟨rfl, rfl, rfl⟩ := trodAll_nil r2
  obtain rfl : args = #[v0, v1, v2] := by cases args; simp_all
  obtain ⟨rfl, rfl⟩ := trodVars_none hV
  obtain ⟨a0, len0, cap0, rfl⟩ := okWide_slice Try.underlying23 (hval 0 23 v0 rfl rfl)
  have k0 := h0
  have lt0 : ∀ x ∈ p0, x.block < W.heap.size := by obtain ⟨m, hm⟩ := k0; exact DataW.trod_lt m _ _ _ hm
  obtain ⟨z0, w0⟩ : ∃ zs, IsRow .u32 W a0 len0 cap0 zs := by
    obtain ⟨fuel, hf⟩ := h0
    rcases open_ints Try.underlying23 Try.underlying34 (by kernel_rfl) hf with ⟨hcs, _⟩ | ⟨x, l, c, zs, hcs, _, hl, hm, hz, _, hcell, hwz⟩
    · simp [Value.cells] at hcs
      obtain ⟨rfl, rfl, rfl⟩ := hcs
      exact ⟨[], .inl ⟨rfl, rfl, rfl, rfl⟩⟩
    · simp [Value.cells] at hcs
      obtain ⟨rfl, rfl, rfl⟩ := hcs
      exact ⟨zs, .inr ⟨_, rfl, hl, hm, by simpa using hz, hcell, hwz⟩⟩
  obtain ⟨a1, len1, cap1, rfl⟩ := okWide_slice Try.underlying23 (hval 1 23 v1 rfl rfl)
  have k1 := h1
  have lt1 : ∀ x ∈ p1, x.block < W.heap.size := by obtain ⟨m, hm⟩ := k1; exact DataW.trod_lt m _ _ _ hm
  obtain ⟨z1, w1⟩ : ∃ zs, IsRow .u32 W a1 len1 cap1 zs := by
    obtain ⟨fuel, hf⟩ := h1
    rcases open_ints Try.underlying23 Try.underlying34 (by kernel_rfl) hf with ⟨hcs, _⟩ | ⟨x, l, c, zs, hcs, _, hl, hm, hz, _, hcell, hwz⟩
    · simp [Value.cells] at hcs
      obtain ⟨rfl, rfl, rfl⟩ := hcs
      exact ⟨[], .inl ⟨rfl, rfl, rfl, rfl⟩⟩
    · simp [Value.cells] at hcs
      obtain ⟨rfl, rfl, rfl⟩ := hcs
      exact ⟨zs, .inr ⟨_, rfl, hl, hm, by simpa using hz, hcell, hwz⟩⟩
  obtain ⟨a2, len2, cap2, rfl⟩ := okWide_slice Try.underlying23 (hval 2 23 v2 rfl rfl)
  have k2 := h2
  have lt2 : ∀ x ∈ p2, x.block < W.heap.size := by obtain ⟨m, hm⟩ := k2; exact DataW.trod_lt m _ _ _ hm
  obtain ⟨z2, w2⟩ : ∃ zs, IsRow .u32 W a2 len2 cap2 zs := by
    obtain ⟨fuel, hf⟩ := h2
    rcases open_ints Try.underlying23 Try.underlying34 (by kernel_rfl) hf with ⟨hcs, _⟩ | ⟨x, l, c, zs, hcs, _, hl, hm, hz, _, hcell, hwz⟩
    · simp [Value.cells] at hcs
      obtain ⟨rfl, rfl, rfl⟩ := hcs
      exact ⟨[], .inl ⟨rfl, rfl, rfl, rfl⟩⟩
    · simp [Value.cells] at hcs
      obtain ⟨rfl, rfl, rfl⟩ := hcs
      exact ⟨zs, .inr ⟨_, rfl, hl, hm, by simpa using hz, hcell, hwz⟩⟩
  clear hA0 hval0
  refine (walk a0 len0 cap0 z0 a1 len1 cap1 z1 a2 len2 cap2 z2 W w0 w1 w2).mono fun e W' ⟨he, bel⟩ => ?_
  subst he
  exact ⟨_, rfl, _, _, _, [], _, [], hW', trodAll_mk1 (shut_bool Try.underlying4 _), (trodAll_cons_mk (Below.trod laidOut (by kernel_rfl) (of_decide_eq_true (by kernel_rfl)) k0 bel lt0) (trodAll_cons_mk (Below.trod laidOut (by kernel_rfl) (of_decide_eq_true (by kernel_rfl)) k1 bel lt1) (trodAll_cons_mk (Below.trod laidOut (by kernel_rfl) (of_decide_eq_true (by kernel_rfl)) k2 bel lt2) trodAll_mk0))), rfl, bel.frame _, fun h => by cases h⟩

theorem over : Rows.modexpExpRow.holds Try.pinned (OpenSpec.ofChange Rows.modexpExpSpec) :=
  OpenClaim.holds_of_wide 4 Try.f4 rfl rfl rfl rfl rfl rfl rfl ⟨rfl, rfl, rfl, rfl, rfl⟩ rfl rfl rfl rfl rfl (by kernel_rfl) Try.func4 (by kernel_rfl)
    (of_decide_eq_true (by kernel_rfl)) (by unfold Func.isWrapper; first | (rw [if_pos (by decide +kernel)]; kernel_rfl) | (rw [if_neg (by decide +kernel)]; exact ⟨rfl, rfl⟩))
    (fun os started H enc _ => lifted os started H enc)

end Go.Proofs.Ytdikjmodjaodfaa.modexpExp
namespace Go.Proofs.Ytdikjmodjaodfaa
/-- The given statement. -/
theorem modexpExp_proved : Rows.ModexpExpSaid := modexpExp.over
end Go.Proofs.Ytdikjmodjaodfaa
