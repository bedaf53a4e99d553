/-
  Proved: for every key and every two byte slices the law RsaVerify returns true, and its arguments read as before. No conditions.
-/
import Derived.Test.YtbefchlgonlfiaaRows
import Derived.Test.YtbefchlgonlfiaaRsaP
import Derived.Test.YtbefchlgonlfiaaRsJ
import Derived.WalkKit
import Derived.ProofKit
import Derived.OpenShut
import Derived.ShutString
import Derived.ChangeOld
import Derived.Below
namespace Go.Proofs.Ytbefchlgonlfiaa.rsaVerify
open Go.ChangeShapes Go.WideShapes Go.ChangeAt Go.RowKit
open Go.ChangeMaps (open_string shut_string)
set_option linter.unusedVariables false

theorem own : ownKnob Try.prog.godebug = none := by kernel_rfl
theorem laidOut : laidOutB Try.prog = true := by kernel_rfl

set_option maxRecDepth 10000 in
set_option maxHeartbeats 4000000 in
/-- The walk: the law returns true and writes nothing that was there. -/
theorem walk (na : Option Addr) (nl nc : Nat) (nz : List Int) (ea : Option Addr) (el ec : Nat) (ez : List Int) (da : Option Addr) (dl dc : Nat) (dz : List Int) (alg : Int) (a1 : Option Addr) (len1 cap1 : Nat) (z1 : List Int) (a2 : Option Addr) (len2 cap2 : Nat) (z2 : List Int) (w : World) (wn : IsRow .u32 w na nl nc nz) (we : IsRow .u32 w ea el ec ez) (wd : IsRow .u32 w da dl dc dz) (wa : (Lit.int .i64 alg).wf = true) (w1 : IsRow .u8 w a1 len1 cap1 z1) (w2 : IsRow .u8 w a2 len2 cap2 z2) :
    Calls Try.prog 4 #[.agg #[.slice na nl nc, .slice ea el ec, .slice da dl dc, .int .i64 alg], .slice a1 len1 cap1, .slice a2 len2 cap2] w fun e w' => e = .returned (.bool true) ∧ Below w.heap.size w w' := by
  obtain ⟨N, hN, hni⟩ := R10.num_of_row wn
  obtain ⟨E, hE, hei⟩ := R10.num_of_row we
  obtain ⟨D, hD, hdi⟩ := R10.num_of_row wd
  obtain ⟨x1, hx1, hl1, hlo1, hi1⟩ := R10.bytes_of_row w1
  obtain ⟨x2, hx2, hl2, hlo2, hi2⟩ := R10.bytes_of_row w2
  clear wn we wd wa w1 w2
  have hB : Below w.heap.size w (w.alloc (.cells #[.slice na nl nc, .slice ea el ec, .slice da dl dc, .int .i64 alg] 32)) := (Below.refl _ _).alloc (Nat.le_refl _) _
  obtain ⟨sb, hsb⟩ : ∃ b, (decide (nl ≤ 24) && decide (el ≤ 2) && decide (dl ≤ 24)) = b := ⟨_, rfl⟩
  have HSB := Away.mk hsb
  cases sb with
  | false =>
    clear hsb hN hE hD hx1 hx2
    go_enter Try.func4, Try.ntmps4
    go_wp2_with fail
    refine (R10.small_any na nl nc ea el ec da dl dc alg _).mono ?_
    rw [HSB.out]
    rintro _ w1 ⟨rfl, hb1⟩
    have HB := Away.mk (hB.trans (hb1.mono hB.size))
    clear hb1 hB
    go_wp2_with fail
    refine (R10.alive10_true _).mono ?_
    rintro _ w2 ⟨rfl, hb2⟩
    replace HB := Away.mk (HB.out.trans (hb2.mono HB.out.size))
    clear hb2
    go_wp2
    go_ret
    exact ⟨rfl, HB.out⟩
  | true =>
    simp only [Bool.and_eq_true, decide_eq_true_eq] at hsb
    obtain ⟨⟨hn24, he2⟩, hd24⟩ := hsb
    by_cases hlong : 300 < len1 ∨ 300 < len2
    · have HL := Away.mk hlong
      clear hlong hN hE hD hx1 hx2
      by_cases hl1 : 300 < (len1 : Int)
      · go_enter Try.func4, Try.ntmps4
        go_wp2_with fail
        refine (R10.small_any na nl nc ea el ec da dl dc alg _).mono ?_
        rw [HSB.out]
        rintro _ w1 ⟨rfl, hb1⟩
        have HB := Away.mk (hB.trans (hb1.mono hB.size))
        clear hb1 hB
        go_wp2_with fail
        refine (R10.alive10_true _).mono ?_
        rintro _ w2 ⟨rfl, hb2⟩
        replace HB := Away.mk (HB.out.trans (hb2.mono HB.out.size))
        clear hb2
        go_wp2
        go_ret
        exact ⟨rfl, HB.out⟩
      · have hl2 : 300 < (len2 : Int) := by have := HL.out; omega
        go_enter Try.func4, Try.ntmps4
        go_wp2_with fail
        refine (R10.small_any na nl nc ea el ec da dl dc alg _).mono ?_
        rw [HSB.out]
        rintro _ w1 ⟨rfl, hb1⟩
        have HB := Away.mk (hB.trans (hb1.mono hB.size))
        clear hb1 hB
        go_wp2_with fail
        refine (R10.alive10_true _).mono ?_
        rintro _ w2 ⟨rfl, hb2⟩
        replace HB := Away.mk (HB.out.trans (hb2.mono HB.out.size))
        clear hb2
        go_wp2
        go_ret
        exact ⟨rfl, HB.out⟩
    have hg1 : ¬ 300 < (len1 : Int) := by omega
    have hg2 : ¬ 300 < (len2 : Int) := by omega
    have hx1b : x1.length ≤ 10000 := by omega
    have hx2b : x2.length ≤ 1600 := by omega
    clear hlong
    have hS0 : R10.Hold w.heap.size (.slice na nl nc) (.slice ea el ec) (.slice da dl dc) alg N E D 24 (.slice a1 len1 cap1) (.slice a2 len2 cap2) x1 x2 (w.alloc (.cells #[.slice na nl nc, .slice ea el ec, .slice da dl dc, .int .i64 alg] 32)) := ⟨R10.KBox.new w _ _ _ alg _, (hN.mono hn24).below hB, (hE.mono he2).below hB, (hD.mono hd24).below hB, hx1.below hB, hx2.below hB⟩
    obtain ⟨vb, hvb⟩ : ∃ b, R10.vfy N E alg x1 x2 = b := ⟨_, rfl⟩
    have HV := Away.mk hvb
    clear hvb hN hE hD hx1 hx2
    go_enter Try.func4, Try.ntmps4
    go_wp2_with fail
    refine (R10.small_any na nl nc ea el ec da dl dc alg _).mono ?_
    rw [HSB.out]
    rintro _ w3 ⟨rfl, hb1⟩
    have hS3 := hS0.below hb1
    have HB := Away.mk (hB.trans (hb1.mono hB.size))
    clear hb1 hB hS0
    go_wp2_with fail
    refine wp_region_noPanic ?_
    refine wp_region_held_drew (S := R10.Hold w.heap.size (.slice na nl nc) (.slice ea el ec) (.slice da dl dc) alg N E D 24 (.slice a1 len1 cap1) (.slice a2 len2 cap2) x1 x2) (by kernel_rfl) (hS3.drew) (fun hHeld => ?_)
    refine allReadyH_oneL (i := 0) (by kernel_rfl) rfl (by rfl) (fun K hK => ?_)
    go_simp
    refine (R10.alive10_true _).mono ?_
    rintro _ w4 ⟨rfl, hb4⟩
    have hS4 := hS3.drew.below hb4
    refine hK.out _ _ (hS4) (fun hHeld => ?_)
    clear hK K
    refine wpAnyH_takeL (i := 1) (v := ?v1v) rfl (by kernel_rfl) (by kernel_rfl) (by kernel_rfl) (fun _ _ _ h => h) (by rfl) ?h1v (by assumption) ?_
    case h1v => intro w hSw; go_simp <;> with_reducible rfl
    simp only [Act.put, List.setIfInBounds_toArray, List.set_cons_zero, List.set_cons_succ]
    refine wpAnyH_takeL (i := 2) (v := ?v2v) rfl (by kernel_rfl) (by kernel_rfl) (by kernel_rfl) (fun _ _ _ h => h) (by rfl) ?h2v (by assumption) ?_
    case h2v => intro w hSw; go_simp <;> with_reducible rfl
    simp only [Act.put, List.setIfInBounds_toArray, List.set_cons_zero, List.set_cons_succ]
    refine wpAnyH_takeL (i := 3) (v := (.slice na nl nc)) rfl (by kernel_rfl) (by kernel_rfl) (by kernel_rfl) (fun _ _ _ h => h) (by rfl) ?h3v (by assumption) ?_
    case h3v => intro w hSw; exact R10.exec_load_cell _ _ rfl rfl hSw.kb.n Try.underlying30 rfl
    simp only [Act.put, List.setIfInBounds_toArray, List.set_cons_zero, List.set_cons_succ]
    refine wpAnyH_takeL (i := 4) (v := ?v4v) rfl (by kernel_rfl) (by kernel_rfl) (by kernel_rfl) (fun _ _ _ h => h) (by rfl) ?h4v (by assumption) ?_
    case h4v => intro w hSw; go_simp <;> with_reducible rfl
    simp only [Act.put, List.setIfInBounds_toArray, List.set_cons_zero, List.set_cons_succ]
    refine wpAnyH_takeL (i := 5) (v := (.slice ea el ec)) rfl (by kernel_rfl) (by kernel_rfl) (by kernel_rfl) (fun _ _ _ h => h) (by rfl) ?h5v (by assumption) ?_
    case h5v => intro w hSw; exact R10.exec_load_cell _ _ rfl rfl hSw.kb.e Try.underlying30 rfl
    simp only [Act.put, List.setIfInBounds_toArray, List.set_cons_zero, List.set_cons_succ]
    refine wpAnyH_takeL (i := 6) (v := ?v6v) rfl (by kernel_rfl) (by kernel_rfl) (by kernel_rfl) (fun _ _ _ h => h) (by rfl) ?h6v (by assumption) ?_
    case h6v => intro w hSw; go_simp <;> with_reducible rfl
    simp only [Act.put, List.setIfInBounds_toArray, List.set_cons_zero, List.set_cons_succ]
    refine wpAnyH_takeL (i := 7) (v := (.int .i64 alg)) rfl (by kernel_rfl) (by kernel_rfl) (by kernel_rfl) (fun _ _ _ h => h) (by rfl) ?h7v (by assumption) ?_
    case h7v => intro w hSw; exact R10.exec_load_cell _ _ rfl rfl hSw.kb.a Try.underlying3 rfl
    simp only [Act.put, List.setIfInBounds_toArray, List.set_cons_zero, List.set_cons_succ]
    refine wpAnyH_takeL (i := 8) (v := ?v8v) rfl (by kernel_rfl) (by kernel_rfl) (by kernel_rfl) (fun _ _ _ h => h) (by rfl) ?h8v (by assumption) ?_
    case h8v => intro w hSw; go_simp <;> with_reducible rfl
    simp only [Act.put, List.setIfInBounds_toArray, List.set_cons_zero, List.set_cons_succ]
    refine wpAnyH_takeL (i := 9) (v := ?v9v) rfl (by kernel_rfl) (by kernel_rfl) (by kernel_rfl) (fun _ _ _ h => h) (by rfl) ?h9v (by assumption) ?_
    case h9v => intro w hSw; go_simp <;> with_reducible rfl
    simp only [Act.put, List.setIfInBounds_toArray, List.set_cons_zero, List.set_cons_succ]
    refine wpAnyH_takeL (i := 11) (v := ?v11v) rfl (by kernel_rfl) (by kernel_rfl) (by kernel_rfl) (fun _ _ _ h => h) (by rfl) ?h11v (by assumption) ?_
    case h11v => intro w hSw; go_simp <;> with_reducible rfl
    simp only [Act.put, List.setIfInBounds_toArray, List.set_cons_zero, List.set_cons_succ]
    refine wpAnyH_takeL (i := 12) (v := (.slice na nl nc)) rfl (by kernel_rfl) (by kernel_rfl) (by kernel_rfl) (fun _ _ _ h => h) (by rfl) ?h12v (by assumption) ?_
    case h12v => intro w hSw; exact R10.exec_load_cell _ _ rfl rfl hSw.kb.n Try.underlying30 rfl
    simp only [Act.put, List.setIfInBounds_toArray, List.set_cons_zero, List.set_cons_succ]
    refine wpAnyH_takeL (i := 13) (v := ?v13v) rfl (by kernel_rfl) (by kernel_rfl) (by kernel_rfl) (fun _ _ _ h => h) (by rfl) ?h13v (by assumption) ?_
    case h13v => intro w hSw; go_simp <;> with_reducible rfl
    simp only [Act.put, List.setIfInBounds_toArray, List.set_cons_zero, List.set_cons_succ]
    refine wpAnyH_takeL (i := 14) (v := (.slice ea el ec)) rfl (by kernel_rfl) (by kernel_rfl) (by kernel_rfl) (fun _ _ _ h => h) (by rfl) ?h14v (by assumption) ?_
    case h14v => intro w hSw; exact R10.exec_load_cell _ _ rfl rfl hSw.kb.e Try.underlying30 rfl
    simp only [Act.put, List.setIfInBounds_toArray, List.set_cons_zero, List.set_cons_succ]
    refine wpAnyH_takeL (i := 15) (v := ?v15v) rfl (by kernel_rfl) (by kernel_rfl) (by kernel_rfl) (fun _ _ _ h => h) (by rfl) ?h15v (by assumption) ?_
    case h15v => intro w hSw; go_simp <;> with_reducible rfl
    simp only [Act.put, List.setIfInBounds_toArray, List.set_cons_zero, List.set_cons_succ]
    refine wpAnyH_takeL (i := 16) (v := (.int .i64 alg)) rfl (by kernel_rfl) (by kernel_rfl) (by kernel_rfl) (fun _ _ _ h => h) (by rfl) ?h16v (by assumption) ?_
    case h16v => intro w hSw; exact R10.exec_load_cell _ _ rfl rfl hSw.kb.a Try.underlying3 rfl
    simp only [Act.put, List.setIfInBounds_toArray, List.set_cons_zero, List.set_cons_succ]
    refine wpAnyH_takeL (i := 17) (v := ?v17v) rfl (by kernel_rfl) (by kernel_rfl) (by kernel_rfl) (fun _ _ _ h => h) (by rfl) ?h17v (by assumption) ?_
    case h17v => intro w hSw; go_simp <;> with_reducible rfl
    simp only [Act.put, List.setIfInBounds_toArray, List.set_cons_zero, List.set_cons_succ]
    refine wpAnyH_takeL (i := 18) (v := ?v18v) rfl (by kernel_rfl) (by kernel_rfl) (by kernel_rfl) (fun _ _ _ h => h) (by rfl) ?h18v (by assumption) ?_
    case h18v => intro w hSw; go_simp <;> with_reducible rfl
    simp only [Act.put, List.setIfInBounds_toArray, List.set_cons_zero, List.set_cons_succ]
    refine allReadyH_oneL (i := 10) (by kernel_rfl) rfl (by rfl) (fun K hK => ?_)
    go_simp
    refine (R10.verify_n alg x1 x2 _ hS4.n hS4.e hS4.b1 hS4.b2 hlo1 hlo2 hx1b hx2b (by decide) (by decide)).mono ?_
    rw [HV.out]
    rintro _ w5 ⟨rfl, hb5⟩
    have hS5 := hS4.below hb5
    refine hK.out _ _ (hS5) (fun hHeld => ?_)
    clear hK K
    refine allReadyH_oneL (i := 19) (by kernel_rfl) rfl (by rfl) (fun K hK => ?_)
    go_simp
    refine (R10.refverify_n alg x1 x2 _ hS5.n hS5.e hS5.b1 hS5.b2 hlo1 hlo2 hx1b hx2b (by decide) (by decide)).mono ?_
    rw [HV.out]
    rintro _ w6 ⟨rfl, hb6⟩
    have hS6 := hS5.below hb6
    refine hK.out _ _ (hS6) (fun hHeld => ?_)
    clear hK K
    refine wpAnyH_takeL (i := 20) (v := ?v20v) rfl (by kernel_rfl) (by kernel_rfl) (by kernel_rfl) (fun _ _ _ h => h) (by rfl) ?h20v (by assumption) ?_
    case h20v => intro w hSw; go_simp <;> with_reducible rfl
    simp only [Act.put, List.setIfInBounds_toArray, List.set_cons_zero, List.set_cons_succ]
    refine wpAnyH_takeL (i := 21) (v := ?v21v) rfl (by kernel_rfl) (by kernel_rfl) (by kernel_rfl) (fun _ _ _ h => h) (by rfl) ?h21v (by assumption) ?_
    case h21v => intro w hSw; go_simp <;> with_reducible rfl
    simp only [Act.put, List.setIfInBounds_toArray, List.set_cons_zero, List.set_cons_succ]
    refine wpAnyH_takeL (i := 22) (v := ?v22v) rfl (by kernel_rfl) (by kernel_rfl) (by kernel_rfl) (fun _ _ _ h => h) (by rfl) ?h22v (by assumption) ?_
    case h22v => intro w hSw; go_simp <;> with_reducible rfl
    simp only [Act.put, List.setIfInBounds_toArray, List.set_cons_zero, List.set_cons_succ]
    refine wpAnyH_done (by kernel_rfl) ?_ _
    refine NoPanic.normal ?_
    replace HB := Away.mk (HB.out.trans (((R10.drew_below hb4).trans ((hb5.trans (hb6.mono hb5.size)).mono (R10.drew_below hb4).size)).mono HB.out.size))
    clear hS3 hS4 hS5 hS6 hb4 hb5 hb6
    go_wp2
    go_ret
    exact ⟨rfl, HB.out⟩

set_option maxRecDepth 100000 in
theorem lifted (os : Os) (started : os.Started) (H : Type) (enc : TypeId × Value → H) :
    ReturnsInHanded {} Try.checked os 4 .any (Rows.rsaVerifySpec.pre6 enc Try.prog Try.f4 Rows.rsaVerifyRow.domain false) (Rows.rsaVerifySpec.post enc Try.prog Try.f4 false true false false) := by
  refine returnsInHanded_of_change (C := Try.checked) own started (by kernel_rfl) Try.func4
    (ChangeSpec.witness6 (enc := enc) (C := Try.checked) false ⟨#[], #[.agg #[.slice none 0 0, .slice none 0 0, .slice none 0 0, .int .i64 0], .slice none 0 0, .slice none 0 0], []⟩ 8 (by kernel_rfl) (by kernel_rfl) (by kernel_rfl) (by kernel_rfl)) ?_
  intro W base args ds gs before hval0 hW hcnd _
  have hval : ∀ (j : Nat) t v, Try.f4.params[j]? = some t → args[j]? = some v → Value.okWide Try.prog W .any base t v := hval0
  have hW' := hW
  obtain ⟨p, q, hA0, hV, rfl, hfz, hnd⟩ := hW
  have hA : DataW.TrodAll enc Try.prog W 0 (fun _ => true) true Try.f4.params.toList args.toList ds p := hA0
  rw [Try.params4] at hA hval
  obtain ⟨v0, vs0, d0, ds0, p0, q0, hargs, rfl, rfl, h0, r0⟩ := trodAll_cons hA
  obtain ⟨v1, vs1, d1, ds1, p1, q1, rfl, rfl, rfl, h1, r1⟩ := trodAll_cons r0
  obtain ⟨v2, vs2, d2, ds2, p2, q2, rfl, rfl, rfl, h2, r2⟩ := trodAll_cons r1
  obtain ⟨rfl, rfl, rfl⟩ := trodAll_nil r2
  obtain rfl : args = #[v0, v1, v2] := by cases args; simp_all
  obtain ⟨rfl, rfl⟩ := trodVars_none hV
  have k0 := h0
  have lt0 : ∀ x ∈ p0, x.block < W.heap.size := by obtain ⟨m, hm⟩ := k0; exact DataW.trod_lt m _ _ _ hm
  obtain ⟨na, nl, nc, nz, ea, el, ec, ez, da, dl, dc, dz, alg, rfl, wn, we, wd, wa⟩ := R10.open_keyed (hval 0 32 v0 rfl rfl) h0
  have k1 := h1
  have lt1 : ∀ x ∈ p1, x.block < W.heap.size := by obtain ⟨m, hm⟩ := k1; exact DataW.trod_lt m _ _ _ hm
  obtain ⟨a1, len1, cap1, rfl⟩ := okWide_slice Try.underlying22 (hval 1 22 v1 rfl rfl)
  obtain ⟨z1, w1⟩ : ∃ zs, IsRow .u8 W a1 len1 cap1 zs := by
    obtain ⟨fuel, hf⟩ := h1
    rcases open_ints Try.underlying22 Try.underlying5 (by kernel_rfl) hf with ⟨hcs, _⟩ | ⟨x, l, c, zs, hcs, _, hl, hm, hz, _, hcell, hwz⟩
    · simp [Value.cells] at hcs
      obtain ⟨rfl, rfl, rfl⟩ := hcs
      exact ⟨[], .inl ⟨rfl, rfl, rfl, rfl⟩⟩
    · simp [Value.cells] at hcs
      obtain ⟨rfl, rfl, rfl⟩ := hcs
      exact ⟨zs, .inr ⟨_, rfl, hl, hm, by simpa using hz, hcell, hwz⟩⟩
  have k2 := h2
  have lt2 : ∀ x ∈ p2, x.block < W.heap.size := by obtain ⟨m, hm⟩ := k2; exact DataW.trod_lt m _ _ _ hm
  obtain ⟨a2, len2, cap2, rfl⟩ := okWide_slice Try.underlying22 (hval 2 22 v2 rfl rfl)
  obtain ⟨z2, w2⟩ : ∃ zs, IsRow .u8 W a2 len2 cap2 zs := by
    obtain ⟨fuel, hf⟩ := h2
    rcases open_ints Try.underlying22 Try.underlying5 (by kernel_rfl) hf with ⟨hcs, _⟩ | ⟨x, l, c, zs, hcs, _, hl, hm, hz, _, hcell, hwz⟩
    · simp [Value.cells] at hcs
      obtain ⟨rfl, rfl, rfl⟩ := hcs
      exact ⟨[], .inl ⟨rfl, rfl, rfl, rfl⟩⟩
    · simp [Value.cells] at hcs
      obtain ⟨rfl, rfl, rfl⟩ := hcs
      exact ⟨zs, .inr ⟨_, rfl, hl, hm, by simpa using hz, hcell, hwz⟩⟩
  clear hA0 hval0
  refine (walk na nl nc nz ea el ec ez da dl dc dz alg a1 len1 cap1 z1 a2 len2 cap2 z2 W wn we wd wa w1 w2).mono fun e W' ⟨he, bel⟩ => ?_
  subst he
  exact ⟨_, rfl, _, _, _, [], _, [], hW', trodAll_mk1 (shut_bool Try.underlying4 _), (trodAll_cons_mk (Below.trod laidOut (by kernel_rfl) (of_decide_eq_true (by kernel_rfl)) k0 bel lt0) (trodAll_cons_mk (Below.trod laidOut (by kernel_rfl) (of_decide_eq_true (by kernel_rfl)) k1 bel lt1) (trodAll_cons_mk (Below.trod laidOut (by kernel_rfl) (of_decide_eq_true (by kernel_rfl)) k2 bel lt2) trodAll_mk0))), rfl, bel.frame _, fun h => by cases h⟩

theorem over : Rows.rsaVerifyRow.holds Try.pinned (OpenSpec.ofChange Rows.rsaVerifySpec) :=
  OpenClaim.holds_of_wide 4 Try.f4 rfl rfl rfl rfl rfl rfl rfl ⟨rfl, rfl, rfl, rfl, rfl⟩ rfl rfl rfl rfl rfl (by kernel_rfl) Try.func4 (by kernel_rfl)
    (of_decide_eq_true (by kernel_rfl)) (by unfold Func.isWrapper; first | (rw [if_pos (by decide +kernel)]; kernel_rfl) | (rw [if_neg (by decide +kernel)]; exact ⟨rfl, rfl⟩))
    (fun os started H enc _ => lifted os started H enc)

end Go.Proofs.Ytbefchlgonlfiaa.rsaVerify
namespace Go.Proofs.Ytbefchlgonlfiaa
/-- The given statement. -/
theorem rsaVerify_proved : Rows.RsaVerifySaid := rsaVerify.over
end Go.Proofs.Ytbefchlgonlfiaa
