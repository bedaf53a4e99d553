/-
  Proved: for every key and every byte slice the law RsaSign returns true, and its arguments read as before. No conditions.
-/
import Derived.Test.YtbefchlgonlfiaaRows
import Derived.Test.YtbefchlgonlfiaaRsaP
import Derived.Test.YtbefchlgonlfiaaRsJ
import Derived.WalkKit
import Derived.ProofKit
import Derived.OpenShut
import Derived.ShutString
import Derived.ChangeOld
import Derived.Below
namespace Go.Proofs.Ytbefchlgonlfiaa.rsaSign
open Go.ChangeShapes Go.WideShapes Go.ChangeAt Go.RowKit
open Go.ChangeMaps (open_string shut_string)
set_option linter.unusedVariables false

theorem own : ownKnob Try.prog.godebug = none := by kernel_rfl
theorem laidOut : laidOutB Try.prog = true := by kernel_rfl

set_option maxRecDepth 10000 in
set_option maxHeartbeats 4000000 in
/-- The walk: the law returns true and writes nothing that was there. -/
theorem walk (na : Option Addr) (nl nc : Nat) (nz : List Int) (ea : Option Addr) (el ec : Nat) (ez : List Int) (da : Option Addr) (dl dc : Nat) (dz : List Int) (alg : Int) (a1 : Option Addr) (len1 cap1 : Nat) (z1 : List Int) (w : World) (wn : IsRow .u32 w na nl nc nz) (we : IsRow .u32 w ea el ec ez) (wd : IsRow .u32 w da dl dc dz) (wa : (Lit.int .i64 alg).wf = true) (w1 : IsRow .u8 w a1 len1 cap1 z1) :
    Calls Try.prog 5 #[.agg #[.slice na nl nc, .slice ea el ec, .slice da dl dc, .int .i64 alg], .slice a1 len1 cap1] w fun e w' => e = .returned (.bool true) ∧ Below w.heap.size w w' := by
  obtain ⟨N, hN, hni⟩ := R10.num_of_row wn
  obtain ⟨E, hE, hei⟩ := R10.num_of_row we
  obtain ⟨D, hD, hdi⟩ := R10.num_of_row wd
  obtain ⟨x1, hx1, hl1, hlo1, hi1⟩ := R10.bytes_of_row w1
  clear wn we wd wa w1
  have hB : Below w.heap.size w (w.alloc (.cells #[.slice na nl nc, .slice ea el ec, .slice da dl dc, .int .i64 alg] 32)) := (Below.refl _ _).alloc (Nat.le_refl _) _
  obtain ⟨sb, hsb⟩ : ∃ b, (decide (nl ≤ 24) && decide (el ≤ 2) && decide (dl ≤ 24)) = b := ⟨_, rfl⟩
  have HSB := Away.mk hsb
  cases sb with
  | false =>
    clear hsb hN hE hD hx1
    go_enter Try.func5, Try.ntmps5
    go_wp2_with fail
    refine (R10.small_any na nl nc ea el ec da dl dc alg _).mono ?_
    rw [HSB.out]
    rintro _ w1 ⟨rfl, hb1⟩
    have HB := Away.mk (hB.trans (hb1.mono hB.size))
    clear hb1 hB
    go_wp2_with fail
    refine (R10.alive10_true _).mono ?_
    rintro _ w2 ⟨rfl, hb2⟩
    replace HB := Away.mk (HB.out.trans (hb2.mono HB.out.size))
    clear hb2
    go_wp2
    go_ret
    exact ⟨rfl, HB.out⟩
  | true =>
    simp only [Bool.and_eq_true, decide_eq_true_eq] at hsb
    obtain ⟨⟨hn24, he2⟩, hd24⟩ := hsb
    by_cases hl1 : 300 < (len1 : Int)
    · clear hN hE hD hx1
      go_enter Try.func5, Try.ntmps5
      go_wp2_with fail
      refine (R10.small_any na nl nc ea el ec da dl dc alg _).mono ?_
      rw [HSB.out]
      rintro _ w1 ⟨rfl, hb1⟩
      have HB := Away.mk (hB.trans (hb1.mono hB.size))
      clear hb1 hB
      go_wp2_with fail
      refine (R10.alive10_true _).mono ?_
      rintro _ w2 ⟨rfl, hb2⟩
      replace HB := Away.mk (HB.out.trans (hb2.mono HB.out.size))
      clear hb2
      go_wp2
      go_ret
      exact ⟨rfl, HB.out⟩
    have hx1b : x1.length ≤ 10000 := by omega
    have hS0 : R10.Hold w.heap.size (.slice na nl nc) (.slice ea el ec) (.slice da dl dc) alg N E D 24 (.slice a1 len1 cap1) (.slice a1 len1 cap1) x1 x1 (w.alloc (.cells #[.slice na nl nc, .slice ea el ec, .slice da dl dc, .int .i64 alg] 32)) := ⟨R10.KBox.new w _ _ _ alg _, (hN.mono hn24).below hB, (hE.mono he2).below hB, (hD.mono hd24).below hB, hx1.below hB, hx1.below hB⟩
    obtain ⟨se, hse⟩ : ∃ b, R10.serr N E D alg x1 = b := ⟨_, rfl⟩
    obtain ⟨so, hso⟩ : ∃ b, R10.sout N E D alg x1 = b := ⟨_, rfl⟩
    have HSE := Away.mk hse; have HSO := Away.mk hso
    clear hse hso hN hE hD hx1
    go_enter Try.func5, Try.ntmps5
    go_wp2_with fail
    refine (R10.small_any na nl nc ea el ec da dl dc alg _).mono ?_
    rw [HSB.out]
    rintro _ w3 ⟨rfl, hb1⟩
    have hS3 := hS0.below hb1
    have HB := Away.mk (hB.trans (hb1.mono hB.size))
    clear hb1 hB hS0
    have HS := Away.mk hS3
    have c0 := hS3.kb.n
    have c1 := hS3.kb.e
    have c2 := hS3.kb.d
    have c3 := hS3.kb.a
    clear hS3
    go_wp2_with fail
    refine (R10.sign_n alg x1 _ HS.out.n HS.out.e HS.out.d HS.out.b1 hlo1 hx1b (by decide) (by decide) (by decide)).mono ?_
    rw [HSE.out, HSO.out]
    rintro _ w4 ⟨v4, rfl, hv4, hb4⟩
    have HV4 := Away.mk hv4
    have hS4 := HS.out.below hb4
    replace HB := Away.mk (HB.out.trans (hb4.mono HB.out.size))
    clear hv4 hb4 HS c0 c1 c2 c3
    have HS := Away.mk hS4
    have c0 := hS4.kb.n
    have c1 := hS4.kb.e
    have c2 := hS4.kb.d
    have c3 := hS4.kb.a
    clear hS4
    go_wp2_with fail
    refine (R10.refsign_n alg x1 _ HS.out.n HS.out.e HS.out.d HS.out.b1 hlo1 hx1b (by decide) (by decide) (by decide)).mono ?_
    rw [HSE.out, HSO.out]
    rintro _ w5 ⟨v5, rfl, hv5, hb5⟩
    have HV5 := Away.mk hv5
    replace HV4 := Away.mk (HV4.out.below hb5)
    replace HB := Away.mk (HB.out.trans (hb5.mono HB.out.size))
    clear hv5 hb5 HS c0 c1 c2 c3
    go_wp2_with fail
    refine (R10.alive10_true _).mono ?_
    rintro _ w6 ⟨rfl, hb6⟩
    have s1 := R10.strR (HV4.out.below hb6)
    have s2 := R10.strR (HV5.out.below hb6)
    replace HB := Away.mk (HB.out.trans (hb6.mono HB.out.size))
    clear hb6 HV4 HV5
    generalize strOfNums (so.map Int.ofNat) = sx at *
    go_wp2
    go_ret
    exact ⟨rfl, HB.out⟩

set_option maxRecDepth 100000 in
theorem lifted (os : Os) (started : os.Started) (H : Type) (enc : TypeId × Value → H) :
    ReturnsInHanded {} Try.checked os 5 .any (Rows.rsaSignSpec.pre6 enc Try.prog Try.f5 Rows.rsaSignRow.domain false) (Rows.rsaSignSpec.post enc Try.prog Try.f5 false true false false) := by
  refine returnsInHanded_of_change (C := Try.checked) own started (by kernel_rfl) Try.func5
    (ChangeSpec.witness6 (enc := enc) (C := Try.checked) false ⟨#[], #[.agg #[.slice none 0 0, .slice none 0 0, .slice none 0 0, .int .i64 0], .slice none 0 0], []⟩ 8 (by kernel_rfl) (by kernel_rfl) (by kernel_rfl) (by kernel_rfl)) ?_
  intro W base args ds gs before hval0 hW hcnd _
  have hval : ∀ (j : Nat) t v, Try.f5.params[j]? = some t → args[j]? = some v → Value.okWide Try.prog W .any base t v := hval0
  have hW' := hW
  obtain ⟨p, q, hA0, hV, rfl, hfz, hnd⟩ := hW
  have hA : DataW.TrodAll enc Try.prog W 0 (fun _ => true) true Try.f5.params.toList args.toList ds p := hA0
  rw [Try.params5] at hA hval
  obtain ⟨v0, vs0, d0, ds0, p0, q0, hargs, rfl, rfl, h0, r0⟩ := trodAll_cons hA
  obtain ⟨v1, vs1, d1, ds1, p1, q1, rfl, rfl, rfl, h1, r1⟩ := trodAll_cons r0
  obtain ⟨rfl, rfl, rfl⟩ := trodAll_nil r1
  obtain rfl : args = #[v0, v1] := by cases args; simp_all
  obtain ⟨rfl, rfl⟩ := trodVars_none hV
  have k0 := h0
  have lt0 : ∀ x ∈ p0, x.block < W.heap.size := by obtain ⟨m, hm⟩ := k0; exact DataW.trod_lt m _ _ _ hm
  obtain ⟨na, nl, nc, nz, ea, el, ec, ez, da, dl, dc, dz, alg, rfl, wn, we, wd, wa⟩ := R10.open_keyed (hval 0 32 v0 rfl rfl) h0
  have k1 := h1
  have lt1 : ∀ x ∈ p1, x.block < W.heap.size := by obtain ⟨m, hm⟩ := k1; exact DataW.trod_lt m _ _ _ hm
  obtain ⟨a1, len1, cap1, rfl⟩ := okWide_slice Try.underlying22 (hval 1 22 v1 rfl rfl)
  obtain ⟨z1, w1⟩ : ∃ zs, IsRow .u8 W a1 len1 cap1 zs := by
    obtain ⟨fuel, hf⟩ := h1
    rcases open_ints Try.underlying22 Try.underlying5 (by kernel_rfl) hf with ⟨hcs, _⟩ | ⟨x, l, c, zs, hcs, _, hl, hm, hz, _, hcell, hwz⟩
    · simp [Value.cells] at hcs
      obtain ⟨rfl, rfl, rfl⟩ := hcs
      exact ⟨[], .inl ⟨rfl, rfl, rfl, rfl⟩⟩
    · simp [Value.cells] at hcs
      obtain ⟨rfl, rfl, rfl⟩ := hcs
      exact ⟨zs, .inr ⟨_, rfl, hl, hm, by simpa using hz, hcell, hwz⟩⟩
  clear hA0 hval0
  refine (walk na nl nc nz ea el ec ez da dl dc dz alg a1 len1 cap1 z1 W wn we wd wa w1).mono fun e W' ⟨he, bel⟩ => ?_
  subst he
  exact ⟨_, rfl, _, _, _, [], _, [], hW', trodAll_mk1 (shut_bool Try.underlying4 _), (trodAll_cons_mk (Below.trod laidOut (by kernel_rfl) (of_decide_eq_true (by kernel_rfl)) k0 bel lt0) (trodAll_cons_mk (Below.trod laidOut (by kernel_rfl) (of_decide_eq_true (by kernel_rfl)) k1 bel lt1) trodAll_mk0)), rfl, bel.frame _, fun h => by cases h⟩

theorem over : Rows.rsaSignRow.holds Try.pinned (OpenSpec.ofChange Rows.rsaSignSpec) :=
  OpenClaim.holds_of_wide 5 Try.f5 rfl rfl rfl rfl rfl rfl rfl ⟨rfl, rfl, rfl, rfl, rfl⟩ rfl rfl rfl rfl rfl (by kernel_rfl) Try.func5 (by kernel_rfl)
    (of_decide_eq_true (by kernel_rfl)) (by unfold Func.isWrapper; first | (rw [if_pos (by decide +kernel)]; kernel_rfl) | (rw [if_neg (by decide +kernel)]; exact ⟨rfl, rfl⟩))
    (fun os started H enc _ => lifted os started H enc)

end Go.Proofs.Ytbefchlgonlfiaa.rsaSign
namespace Go.Proofs.Ytbefchlgonlfiaa
/-- The given statement. -/
theorem rsaSign_proved : Rows.RsaSignSaid := rsaSign.over
end Go.Proofs.Ytbefchlgonlfiaa
