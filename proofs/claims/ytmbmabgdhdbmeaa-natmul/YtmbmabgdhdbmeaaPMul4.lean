/-
  Proved: for every two lists of words a and b and every number n the law NatMul returns true, and both lists read as before. No conditions.
-/
import Derived.Test.YtmbmabgdhdbmeaaRows
import Derived.Test.YtmbmabgdhdbmeaaNatF
import Derived.Test.YtmbmabgdhdbmeaaRefH
import Derived.Test.YtmbmabgdhdbmeaaLawK
import Derived.WalkKit
import Derived.ProofKit
import Derived.OpenShut
import Derived.ShutString
import Derived.ChangeOld
import Derived.Below
namespace Go.Proofs.Ytmbmabgdhdbmeaa.natMul
open Go.ChangeShapes Go.WideShapes Go.ChangeAt Go.RowKit
open Go.ChangeMaps (open_string shut_string)
set_option linter.unusedVariables false

theorem own : ownKnob Try.prog.godebug = none := by kernel_rfl
theorem laidOut : laidOutB Try.prog = true := by kernel_rfl

theorem mul80 {A B : Nat} (ha : A < W32 ^ 80) (hb : B < W32 ^ 80) : A * B < W32 ^ 160 := mul_fits (m := 80) (n := 80) ha hb
set_option maxHeartbeats 8000000 in
/-- The walk: the law returns true and writes nothing that was there. -/
theorem walk (a0 : Option Addr) (len0 cap0 : Nat) (z0 : List Int) (a1 : Option Addr) (len1 cap1 : Nat) (z1 : List Int) (a2 : Int) (w : World) (w0 : IsRow .u32 w a0 len0 cap0 z0) (w1 : IsRow .u32 w a1 len1 cap1 z1) (w2 : (Lit.int .u64 a2).wf = true) :
    Calls Try.prog 5 #[.slice a0 len0 cap0, .slice a1 len1 cap1, .int .u64 a2] w fun e w' => e = .returned (.bool true) ∧ Below w.heap.size w w' := by
  obtain ⟨n, hn, hnb⟩ : ∃ n : Nat, a2 = (n : Int) ∧ n < 18446744073709551616 := by
    simp [Lit.wf, IntKind.min, IntKind.max, IntKind.signed, IntKind.bits] at w2
    exact ⟨a2.toNat, by omega, by omega⟩
  subst hn
  clear w2
  obtain ⟨xs0, hs0, hl0, hn0⟩ := open32 w0
  have hm0 : len0 ≤ maxLen := by have := hs0.len; rwa [C_length, hn0] at this
  have hi0 : (len0 : Int) ≤ 9223372036854775807 := by unfold maxLen at hm0; omega
  obtain ⟨xs1, hs1, hl1, hn1⟩ := open32 w1
  have hm1 : len1 ≤ maxLen := by have := hs1.len; rwa [C_length, hn1] at this
  have hi1 : (len1 : Int) ≤ 9223372036854775807 := by unfold maxLen at hm1; omega
  clear w0 w1
  by_cases h0 : 80 < (len0 : Int)
  · go_enter Try.func5, Try.ntmps5
    go_wp2_with (go_at_call 11; refine (alive_true _).mono ?_; rintro e w' ⟨rfl, hb⟩)
    go_ret
    exact ⟨rfl, hb⟩
  by_cases h1 : 80 < (len1 : Int)
  · go_enter Try.func5, Try.ntmps5
    go_wp2_with (go_at_call 11; refine (alive_true _).mono ?_; rintro e w' ⟨rfl, hb⟩)
    go_ret
    exact ⟨rfl, hb⟩
  have HC0 : Away (SlV w (.slice a0 len0 cap0) (C .u32 xs0)) := ⟨hs0⟩
  have HC1 : Away (SlV w (.slice a1 len1 cap1) (C .u32 xs1)) := ⟨hs1⟩
  have k0 : xs0.length ≤ 80 := by omega
  have k1 : xs1.length ≤ 80 := by omega
  have HB : Away (Below w.heap.size w w) := ⟨Below.refl _ _⟩
  have HN0 : Num w (.slice a0 len0 cap0) (val W32 xs0) 80 := ⟨xs0, hs0, hl0, rfl, k0⟩
  have HN1 : Num w (.slice a1 len1 cap1) (val W32 xs1) 80 := ⟨xs1, hs1, hl1, rfl, k1⟩
  have LM : Away (val W32 xs0 * val W32 xs1 < W32 ^ 160) := ⟨mul80 HN0.lt HN1.lt⟩
  have LF : Away (n < W32 ^ 2) := ⟨hnb⟩
  have HNB := Away.mk hnb
  have HL := Away.mk (And.intro hl0 hl1)
  clear hs0 hs1 hn0 hn1 hm0 hm1 HN0 HN1 hl0 hl1 hnb
  go_enter Try.func5, Try.ntmps5
  go_wp2_with fail
  refine (alive_true _).mono ?_
  rintro _ x1 ⟨rfl, hb⟩
  replace HC0 := Away.mk (HC0.out.below hb)
  replace HC1 := Away.mk (HC1.out.below hb)
  replace HB := Away.mk (HB.out.trans (hb.mono HB.out.size))
  clear hb
  go_wp2_with fail
  refine (mul_any _ _ xs0 xs1 _ HC0.out HC1.out HL.out.1 HL.out.2 (by omega) (by omega)).mono ?_
  rintro _ x2 ⟨u, rfl, hu, hb⟩
  replace HC0 := Away.mk (HC0.out.below hb)
  replace HC1 := Away.mk (HC1.out.below hb)
  replace HB := Away.mk (HB.out.trans (hb.mono HB.out.size))
  clear hb
  have HU := Away.mk (hu.ra)
  clear hu
  go_wp2_with fail
  refine (refmul_any _ _ xs0 xs1 _ HC0.out HC1.out HL.out.1 HL.out.2 (by omega) (by omega)).mono ?_
  rintro _ x3 ⟨v, rfl, hv, hb⟩
  replace HC0 := Away.mk (HC0.out.below hb)
  replace HC1 := Away.mk (HC1.out.below hb)
  replace HU := Away.mk (HU.out.below hb)
  replace HB := Away.mk (HB.out.trans (hb.mono HB.out.size))
  clear hb
  have HV := Away.mk (hv)
  clear hv
  go_wp2_with fail
  refine (same_rb _ _ _ 160 _ HU.out HV.out (by decide) LM.out).mono ?_
  rintro _ x4 ⟨rfl, hb⟩
  replace HC0 := Away.mk (HC0.out.below hb)
  replace HC1 := Away.mk (HC1.out.below hb)
  replace HU := Away.mk (HU.out.below hb)
  replace HV := Away.mk (HV.out.below hb)
  replace HB := Away.mk (HB.out.trans (hb.mono HB.out.size))
  clear hb
  clear HU
  clear HV
  go_wp2_with fail
  refine (from_any n HNB.out _).mono ?_
  rintro _ x5 ⟨s, rfl, hs, hb⟩
  replace HC0 := Away.mk (HC0.out.below hb)
  replace HC1 := Away.mk (HC1.out.below hb)
  replace HB := Away.mk (HB.out.trans (hb.mono HB.out.size))
  clear hb
  have HS := Away.mk (hs.ra)
  clear hs
  go_wp2_with fail
  refine (reffrom_any n HNB.out _).mono ?_
  rintro _ x6 ⟨t, rfl, ht, hb⟩
  replace HC0 := Away.mk (HC0.out.below hb)
  replace HC1 := Away.mk (HC1.out.below hb)
  replace HS := Away.mk (HS.out.below hb)
  replace HB := Away.mk (HB.out.trans (hb.mono HB.out.size))
  clear hb
  have HT := Away.mk (ht)
  clear ht
  go_wp2_with fail
  refine (same_rb _ _ _ 2 _ HS.out HT.out (by decide) LF.out).mono ?_
  rintro _ x7 ⟨rfl, hb⟩
  replace HC0 := Away.mk (HC0.out.below hb)
  replace HC1 := Away.mk (HC1.out.below hb)
  replace HS := Away.mk (HS.out.below hb)
  replace HT := Away.mk (HT.out.below hb)
  replace HB := Away.mk (HB.out.trans (hb.mono HB.out.size))
  clear hb
  go_wp2
  go_ret
  exact ⟨rfl, HB.out⟩

set_option maxRecDepth 100000 in
theorem lifted (os : Os) (started : os.Started) (H : Type) (enc : TypeId × Value → H) :
    ReturnsInHanded {} Try.checked os 5 .any (Rows.natMulSpec.pre6 enc Try.prog Try.f5 Rows.natMulRow.domain false) (Rows.natMulSpec.post enc Try.prog Try.f5 false true false false) := by
  refine returnsInHanded_of_change (C := Try.checked) own started (by kernel_rfl) Try.func5
    (ChangeSpec.witness6 (enc := enc) (C := Try.checked) false ⟨#[], #[.slice none 0 0, .slice none 0 0, .int .u64 0], []⟩ 8 (by kernel_rfl) (by kernel_rfl) (by kernel_rfl) (by kernel_rfl)) ?_
  intro W base args ds gs before hval0 hW hcnd _
  have hval : ∀ (j : Nat) t v, Try.f5.params[j]? = some t → args[j]? = some v → Value.okWide Try.prog W .any base t v := hval0
  have hW' := hW
  obtain ⟨p, q, hA0, hV, rfl, hfz, hnd⟩ := hW
  have hA : DataW.TrodAll enc Try.prog W 0 (fun _ => true) true Try.f5.params.toList args.toList ds p := hA0
  rw [Try.params5] at hA hval
  obtain ⟨v0, vs0, d0, ds0, p0, q0, hargs, rfl, rfl, h0, r0⟩ := trodAll_cons hA
  obtain ⟨v1, vs1, d1, ds1, p1, q1, rfl, rfl, rfl, h1, r1⟩ := trodAll_cons r0
  obtain ⟨v2, vs2, d2, ds2, p2, q2, rfl, rfl, rfl, h2, r2⟩ := trodAll_cons r1
  obtain ⟨rfl, rfl, rfl⟩ := trodAll_nil r2
  obtain rfl : args = #[v0, v1, v2] := by cases args; simp_all
  obtain ⟨rfl, rfl⟩ := trodVars_none hV
  obtain ⟨a0, len0, cap0, rfl⟩ := okWide_slice Try.underlying23 (hval 0 23 v0 rfl rfl)
  have k0 := h0
  have lt0 : ∀ x ∈ p0, x.block < W.heap.size := by obtain ⟨m, hm⟩ := k0; exact DataW.trod_lt m _ _ _ hm
  obtain ⟨z0, w0⟩ : ∃ zs, IsRow .u32 W a0 len0 cap0 zs := by
    obtain ⟨fuel, hf⟩ := h0
    rcases open_ints Try.underlying23 Try.underlying47 (by kernel_rfl) hf with ⟨hcs, _⟩ | ⟨x, l, c, zs, hcs, _, hl, hm, hz, _, hcell, hwz⟩
    · simp [Value.cells] at hcs
      obtain ⟨rfl, rfl, rfl⟩ := hcs
      exact ⟨[], .inl ⟨rfl, rfl, rfl, rfl⟩⟩
    · simp [Value.cells] at hcs
      obtain ⟨rfl, rfl, rfl⟩ := hcs
      exact ⟨zs, .inr ⟨_, rfl, hl, hm, by simpa using hz, hcell, hwz⟩⟩
  obtain ⟨a1, len1, cap1, rfl⟩ := okWide_slice Try.underlying23 (hval 1 23 v1 rfl rfl)
  have k1 := h1
  have lt1 : ∀ x ∈ p1, x.block < W.heap.size := by obtain ⟨m, hm⟩ := k1; exact DataW.trod_lt m _ _ _ hm
  obtain ⟨z1, w1⟩ : ∃ zs, IsRow .u32 W a1 len1 cap1 zs := by
    obtain ⟨fuel, hf⟩ := h1
    rcases open_ints Try.underlying23 Try.underlying47 (by kernel_rfl) hf with ⟨hcs, _⟩ | ⟨x, l, c, zs, hcs, _, hl, hm, hz, _, hcell, hwz⟩
    · simp [Value.cells] at hcs
      obtain ⟨rfl, rfl, rfl⟩ := hcs
      exact ⟨[], .inl ⟨rfl, rfl, rfl, rfl⟩⟩
    · simp [Value.cells] at hcs
      obtain ⟨rfl, rfl, rfl⟩ := hcs
      exact ⟨zs, .inr ⟨_, rfl, hl, hm, by simpa using hz, hcell, hwz⟩⟩
  obtain ⟨a2, rfl, rfl, rfl, w2⟩ := open_int Try.underlying40 (hval 2 40 v2 rfl rfl) h2
  clear hA0 hval0
  refine (walk a0 len0 cap0 z0 a1 len1 cap1 z1 a2 W w0 w1 w2).mono fun e W' ⟨he, bel⟩ => ?_
  subst he
  exact ⟨_, rfl, _, _, _, [], _, [], hW', trodAll_mk1 (shut_bool Try.underlying4 _), (trodAll_cons_mk (Below.trod laidOut (by kernel_rfl) (of_decide_eq_true (by kernel_rfl)) k0 bel lt0) (trodAll_cons_mk (Below.trod laidOut (by kernel_rfl) (of_decide_eq_true (by kernel_rfl)) k1 bel lt1) (trodAll_cons_mk (shut_int Try.underlying40 w2) trodAll_mk0))), rfl, bel.frame _, fun h => by cases h⟩

theorem over : Rows.natMulRow.holds Try.pinned (OpenSpec.ofChange Rows.natMulSpec) :=
  OpenClaim.holds_of_wide 5 Try.f5 rfl rfl rfl rfl rfl rfl rfl ⟨rfl, rfl, rfl, rfl, rfl⟩ rfl rfl rfl rfl rfl (by kernel_rfl) Try.func5 (by kernel_rfl)
    (of_decide_eq_true (by kernel_rfl)) (by unfold Func.isWrapper; first | (rw [if_pos (by decide +kernel)]; kernel_rfl) | (rw [if_neg (by decide +kernel)]; exact ⟨rfl, rfl⟩))
    (fun os started H enc _ => lifted os started H enc)

end Go.Proofs.Ytmbmabgdhdbmeaa.natMul
namespace Go.Proofs.Ytmbmabgdhdbmeaa
/-- The given statement. -/
theorem natMul_proved : Rows.NatMulSaid := natMul.over
end Go.Proofs.Ytmbmabgdhdbmeaa
