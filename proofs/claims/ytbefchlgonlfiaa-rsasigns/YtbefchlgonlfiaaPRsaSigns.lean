/-
  Proved: for every key and every two byte slices the law RsaSigns returns true, and its arguments read as before. No conditions.
-/
import Derived.Test.YtbefchlgonlfiaaRows
import Derived.Test.YtbefchlgonlfiaaRsaR
import Derived.Test.YtbefchlgonlfiaaRsJ
import Derived.WalkKit
import Derived.ProofKit
import Derived.OpenShut
import Derived.ShutString
import Derived.ChangeOld
import Derived.Below
namespace Go.Proofs.Ytbefchlgonlfiaa.rsaSigns
open Go.ChangeShapes Go.WideShapes Go.ChangeAt Go.RowKit
open Go.ChangeMaps (open_string shut_string)
set_option linter.unusedVariables false

theorem own : ownKnob Try.prog.godebug = none := by kernel_rfl
theorem laidOut : laidOutB Try.prog = true := by kernel_rfl

set_option maxRecDepth 10000 in
set_option maxHeartbeats 16000000 in
/-- The walk: the law returns true and writes nothing that was there. -/
theorem walk (na : Option Addr) (nl nc : Nat) (nz : List Int) (ea : Option Addr) (el ec : Nat) (ez : List Int) (da : Option Addr) (dl dc : Nat) (dz : List Int) (alg : Int) (a1 : Option Addr) (len1 cap1 : Nat) (z1 : List Int) (a2 : Option Addr) (len2 cap2 : Nat) (z2 : List Int) (w : World) (wn : IsRow .u32 w na nl nc nz) (we : IsRow .u32 w ea el ec ez) (wd : IsRow .u32 w da dl dc dz) (wa : (Lit.int .i64 alg).wf = true) (w1 : IsRow .u8 w a1 len1 cap1 z1) (w2 : IsRow .u8 w a2 len2 cap2 z2) :
    Calls Try.prog 6 #[.agg #[.slice na nl nc, .slice ea el ec, .slice da dl dc, .int .i64 alg], .slice a1 len1 cap1, .slice a2 len2 cap2] w fun e w' => e = .returned (.bool true) ∧ Below w.heap.size w w' := by
  obtain ⟨N, hN, hni⟩ := R10.num_of_row wn
  obtain ⟨E, hE, hei⟩ := R10.num_of_row we
  obtain ⟨D, hD, hdi⟩ := R10.num_of_row wd
  obtain ⟨x1, hx1, hl1, hlo1, hi1⟩ := R10.bytes_of_row w1
  obtain ⟨x2, hx2, hl2, hlo2, hi2⟩ := R10.bytes_of_row w2
  clear wn we wd wa w1 w2
  have hB : Below w.heap.size w (w.alloc (.cells #[.slice na nl nc, .slice ea el ec, .slice da dl dc, .int .i64 alg] 32)) := (Below.refl _ _).alloc (Nat.le_refl _) _
  have hBx := R10.KBox.new w (.slice na nl nc) (.slice ea el ec) (.slice da dl dc) alg 32
  by_cases q1 : 256 < (nl : Int)
  · clear hN hE hD hx1 hx2 hBx
    go_enter Try.func6, Try.ntmps6
    go_wp2_with fail
    refine (R10.alive10_true _).mono ?_
    rintro _ w2 ⟨rfl, hb2⟩
    have HB := Away.mk (hB.trans (hb2.mono hB.size))
    clear hb2 hB
    go_wp2
    go_ret
    exact ⟨rfl, HB.out⟩
  by_cases q2 : 256 < (dl : Int)
  · clear hN hE hD hx1 hx2 hBx
    go_enter Try.func6, Try.ntmps6
    go_wp2_with fail
    refine (R10.alive10_true _).mono ?_
    rintro _ w2 ⟨rfl, hb2⟩
    have HB := Away.mk (hB.trans (hb2.mono hB.size))
    clear hb2 hB
    go_wp2
    go_ret
    exact ⟨rfl, HB.out⟩
  by_cases q3 : 2 < (el : Int)
  · clear hN hE hD hx1 hx2 hBx
    go_enter Try.func6, Try.ntmps6
    go_wp2_with fail
    refine (R10.alive10_true _).mono ?_
    rintro _ w2 ⟨rfl, hb2⟩
    have HB := Away.mk (hB.trans (hb2.mono hB.size))
    clear hb2 hB
    go_wp2
    go_ret
    exact ⟨rfl, HB.out⟩
  by_cases q4 : 300 < (len1 : Int)
  · clear hN hE hD hx1 hx2 hBx
    go_enter Try.func6, Try.ntmps6
    go_wp2_with fail
    refine (R10.alive10_true _).mono ?_
    rintro _ w2 ⟨rfl, hb2⟩
    have HB := Away.mk (hB.trans (hb2.mono hB.size))
    clear hb2 hB
    go_wp2
    go_ret
    exact ⟨rfl, HB.out⟩
  by_cases q5 : 300 < (len2 : Int)
  · clear hN hE hD hx1 hx2 hBx
    go_enter Try.func6, Try.ntmps6
    go_wp2_with fail
    refine (R10.alive10_true _).mono ?_
    rintro _ w2 ⟨rfl, hb2⟩
    have HB := Away.mk (hB.trans (hb2.mono hB.size))
    clear hb2 hB
    go_wp2
    go_ret
    exact ⟨rfl, HB.out⟩
  have hn256 : nl ≤ 256 := by omega
  have he2 : el ≤ 2 := by omega
  have hd256 : dl ≤ 256 := by omega
  have hS0 : R10.Hold w.heap.size (.slice na nl nc) (.slice ea el ec) (.slice da dl dc) alg N E D 256 (.slice a1 len1 cap1) (.slice a2 len2 cap2) x1 x2 (w.alloc (.cells #[.slice na nl nc, .slice ea el ec, .slice da dl dc, .int .i64 alg] 32)) := ⟨hBx, (hN.mono hn256).below hB, (hE.mono he2).below hB, (hD.mono hd256).below hB, hx1.below hB, hx2.below hB⟩
  obtain ⟨se, hse⟩ : ∃ b, R10.serr N E D alg x1 = b := ⟨_, rfl⟩
  obtain ⟨so, hso⟩ : ∃ b, R10.sout N E D alg x1 = b := ⟨_, rfl⟩
  have HSE := Away.mk hse; have HSO := Away.mk hso
  have hlos : Lo 256 so := by rw [← hso]; exact R10.sout_lo _ _ _ _ _
  have hlo0 : Lo 256 (0 :: so) := by
    intro x hx
    rcases List.mem_cons.1 hx with rfl | h
    · decide
    · exact hlos x h
  have hkl := R10.num_kl (hN.mono hn256)
  have hsk : so.length ≤ R10.kl N := by have := R10.sout_length N E D alg x1; rwa [hso] at this
  have hsol : so.length ≤ 1024 := by omega
  have hblN := (hN.mono hn256).bl
  have HNo : Away (se ≠ 0 → so.length = 0) := ⟨fun h => by rw [← hso, R10.sout_none (by rw [hse]; exact h)]; rfl⟩
  have HV1' : Away (se = 0 → R10.vfy N E alg x1 so = true) := ⟨fun h => by rw [← hso]; exact R10.vfy_sout (hse.trans h)⟩
  have HV2' : Away (se = 0 → R10.vfy N E alg x1 (0 :: so) = true) := ⟨fun h => by rw [← hso]; exact R10.vfy_nought (hse.trans h)⟩
  have HV3' : Away (se = 0 → R10.vfy N E alg x2 so = decide (x2 = x1)) := ⟨fun h => by rw [← hso]; exact R10.vfy_other hlo1 hlo2 (hse.trans h)⟩
  have HV4' : Away (se = 0 → ∀ b, b ≠ alg → R10.vfy N E b x1 so = false) := ⟨fun h b hb => by rw [← hso]; exact R10.vfy_alg hb (hse.trans h)⟩
  have HSTR : Away (decide (strOfNums (x2.map Int.ofNat) = strOfNums (x1.map Int.ofNat)) = decide (x2 = x1)) := ⟨by
    rw [decide_eq_decide]
    exact ⟨fun h => R10.str_inj hlo2 hlo1 h, fun h => by rw [h]⟩⟩
  clear hse hso hN hE hD hx1 hx2 hBx
  have HS := Away.mk hS0
  have HB := Away.mk hB
  have c0 := hS0.kb.n
  have c1 := hS0.kb.e
  have c2 := hS0.kb.d
  have c3 := hS0.kb.a
  clear hS0 hB
  go_enter Try.func6, Try.ntmps6
  go_wp2_with fail
  refine (R10.sign_n alg x1 _ HS.out.n HS.out.e HS.out.d HS.out.b1 hlo1 (by omega) (by decide) (by decide) (by decide)).mono ?_
  rw [HSE.out, HSO.out]
  rintro _ w4 ⟨v4, rfl, hv4, hb4⟩
  obtain ⟨va, vc, rfl, r1, r2⟩ := hv4.shp rfl
  have hS5 : R10.Hold4 w.heap.size (.slice na nl nc) (.slice ea el ec) (.slice da dl dc) alg N E D 256 (.slice a1 len1 cap1) (.slice a2 len2 cap2) (.slice va so.length vc) (.slice va so.length vc) x1 x2 so so w4 := ⟨HS.out.below hb4, hv4, hv4⟩
  replace HB := Away.mk (HB.out.trans (hb4.mono HB.out.size))
  clear hv4 hb4 HS c0 c1 c2 c3
  by_cases hse0 : se ≠ 0
  · have hso0 := HNo.out hse0
    rw [hso0]
    clear hS5 HNo
    go_wp2_with fail
    refine (R10.alive10_true _).mono ?_
    rintro _ w5 ⟨rfl, hb5⟩
    replace HB := Away.mk (HB.out.trans (hb5.mono HB.out.size))
    clear hb5
    go_wp2
    go_ret
    exact ⟨rfl, HB.out⟩
  · replace hse0 : se = 0 := by omega
    subst hse0
    have HV1 := Away.mk (HV1'.out rfl); have HV2 := Away.mk (HV2'.out rfl); have HV3 := Away.mk (HV3'.out rfl); have HV4 := Away.mk (HV4'.out rfl)
    clear HV1' HV2' HV3' HV4' HNo
    obtain ⟨eqv, heq⟩ : ∃ b, decide (x2 = x1) = b := ⟨_, rfl⟩
    rw [heq] at HV3 HSTR
    have HEQ : Away (((strOfNums (x2.map Int.ofNat)).toList == (strOfNums (x1.map Int.ofNat)).toList) = eqv) := ⟨by rw [R10.str_same]; exact HSTR.out⟩
    clear heq
    go_wp2_with fail
    refine wp_region_noPanic ?_
    refine wp_region_held_drew (S := R10.Hold4 w.heap.size (.slice na nl nc) (.slice ea el ec) (.slice da dl dc) alg N E D 256 (.slice a1 len1 cap1) (.slice a2 len2 cap2) (.slice va so.length vc) (.slice va so.length vc) x1 x2 so so) (by kernel_rfl) (hS5.drew) (fun hHeld => ?_)
    refine wpAnyH_takeL (i := 0) (v := ?v0p) rfl (by kernel_rfl) (by kernel_rfl) (by kernel_rfl) (fun _ _ _ h => h) (by rfl) ?h0p (by assumption) ?_
    case h0p => intro w hSw; go_simp <;> with_reducible rfl
    simp only [Act.put, List.setIfInBounds_toArray, List.set_cons_zero, List.set_cons_succ]
    refine wpAnyH_takeL (i := 1) (v := (.slice na nl nc)) rfl (by kernel_rfl) (by kernel_rfl) (by kernel_rfl) (fun _ _ _ h => h) (by rfl) ?h1p (by assumption) ?_
    case h1p => intro w hSw; exact R10.exec_load_cell _ _ rfl rfl hSw.h.kb.n Try.underlying30 rfl
    simp only [Act.put, List.setIfInBounds_toArray, List.set_cons_zero, List.set_cons_succ]
    refine wpAnyH_takeL (i := 2) (v := ?v2p) rfl (by kernel_rfl) (by kernel_rfl) (by kernel_rfl) (fun _ _ _ h => h) (by rfl) ?h2p (by assumption) ?_
    case h2p => intro w hSw; go_simp <;> with_reducible rfl
    simp only [Act.put, List.setIfInBounds_toArray, List.set_cons_zero, List.set_cons_succ]
    refine wpAnyH_takeL (i := 3) (v := (.slice ea el ec)) rfl (by kernel_rfl) (by kernel_rfl) (by kernel_rfl) (fun _ _ _ h => h) (by rfl) ?h3p (by assumption) ?_
    case h3p => intro w hSw; exact R10.exec_load_cell _ _ rfl rfl hSw.h.kb.e Try.underlying30 rfl
    simp only [Act.put, List.setIfInBounds_toArray, List.set_cons_zero, List.set_cons_succ]
    refine wpAnyH_takeL (i := 4) (v := ?v4p) rfl (by kernel_rfl) (by kernel_rfl) (by kernel_rfl) (fun _ _ _ h => h) (by rfl) ?h4p (by assumption) ?_
    case h4p => intro w hSw; go_simp <;> with_reducible rfl
    simp only [Act.put, List.setIfInBounds_toArray, List.set_cons_zero, List.set_cons_succ]
    refine wpAnyH_takeL (i := 5) (v := (.int .i64 alg)) rfl (by kernel_rfl) (by kernel_rfl) (by kernel_rfl) (fun _ _ _ h => h) (by rfl) ?h5p (by assumption) ?_
    case h5p => intro w hSw; exact R10.exec_load_cell _ _ rfl rfl hSw.h.kb.a Try.underlying3 rfl
    simp only [Act.put, List.setIfInBounds_toArray, List.set_cons_zero, List.set_cons_succ]
    refine wpAnyH_takeL (i := 6) (v := ?v6p) rfl (by kernel_rfl) (by kernel_rfl) (by kernel_rfl) (fun _ _ _ h => h) (by rfl) ?h6p (by assumption) ?_
    case h6p => intro w hSw; go_simp <;> with_reducible rfl
    simp only [Act.put, List.setIfInBounds_toArray, List.set_cons_zero, List.set_cons_succ]
    refine wpAnyH_takeL (i := 7) (v := ?v7p) rfl (by kernel_rfl) (by kernel_rfl) (by kernel_rfl) (fun _ _ _ h => h) (by rfl) ?h7p (by assumption) ?_
    case h7p => intro w hSw; go_simp <;> with_reducible rfl
    simp only [Act.put, List.setIfInBounds_toArray, List.set_cons_zero, List.set_cons_succ]
    refine allReadyH_oneL (i := 8) (by kernel_rfl) rfl (by rfl) (fun K hK => ?_)
    go_simp
    refine (R10.verify_n alg x1 so _ hS5.drew.h.n hS5.drew.h.e hS5.drew.h.b1 hS5.drew.b3 hlo1 hlos (by omega) (by omega) (by decide) (by decide)).mono ?_
    rw [HV1.out]
    rintro _ w6 ⟨rfl, hb6⟩
    have hS6 := hS5.drew.below hb6
    refine hK.out _ _ (hS6) (fun hHeld => ?_)
    clear hK K
    refine wpAnyH_takeL (i := 9) (v := ?v9p) rfl (by kernel_rfl) (by kernel_rfl) (by kernel_rfl) (fun _ _ _ h => h) (by rfl) ?h9p (by assumption) ?_
    case h9p => intro w hSw; go_simp <;> with_reducible rfl
    simp only [Act.put, List.setIfInBounds_toArray, List.set_cons_zero, List.set_cons_succ]
    refine wpAnyH_takeL (i := 10) (v := ?v10p) rfl (by kernel_rfl) (by kernel_rfl) (by kernel_rfl) (fun _ _ _ h => h) (by rfl) ?h10p (by assumption) ?_
    case h10p => intro w hSw; go_simp <;> with_reducible rfl
    simp only [Act.put, List.setIfInBounds_toArray, List.set_cons_zero, List.set_cons_succ]
    refine wpAnyH_takeL (i := 11) (v := ?v11p) rfl (by kernel_rfl) (by kernel_rfl) (by kernel_rfl) (fun _ _ _ h => h) (by rfl) ?h11p (by assumption) ?_
    case h11p => intro w hSw; go_simp <;> with_reducible rfl
    simp only [Act.put, List.setIfInBounds_toArray, List.set_cons_zero, List.set_cons_succ]
    refine wpAnyH_takeL (i := 12) (v := (.slice na nl nc)) rfl (by kernel_rfl) (by kernel_rfl) (by kernel_rfl) (fun _ _ _ h => h) (by rfl) ?h12p (by assumption) ?_
    case h12p => intro w hSw; exact R10.exec_load_cell _ _ rfl rfl hSw.h.kb.n Try.underlying30 rfl
    simp only [Act.put, List.setIfInBounds_toArray, List.set_cons_zero, List.set_cons_succ]
    refine wpAnyH_takeL (i := 13) (v := ?v13p) rfl (by kernel_rfl) (by kernel_rfl) (by kernel_rfl) (fun _ _ _ h => h) (by rfl) ?h13p (by assumption) ?_
    case h13p => intro w hSw; go_simp <;> with_reducible rfl
    simp only [Act.put, List.setIfInBounds_toArray, List.set_cons_zero, List.set_cons_succ]
    refine wpAnyH_takeL (i := 14) (v := (.slice ea el ec)) rfl (by kernel_rfl) (by kernel_rfl) (by kernel_rfl) (fun _ _ _ h => h) (by rfl) ?h14p (by assumption) ?_
    case h14p => intro w hSw; exact R10.exec_load_cell _ _ rfl rfl hSw.h.kb.e Try.underlying30 rfl
    simp only [Act.put, List.setIfInBounds_toArray, List.set_cons_zero, List.set_cons_succ]
    refine wpAnyH_takeL (i := 15) (v := ?v15p) rfl (by kernel_rfl) (by kernel_rfl) (by kernel_rfl) (fun _ _ _ h => h) (by rfl) ?h15p (by assumption) ?_
    case h15p => intro w hSw; go_simp <;> with_reducible rfl
    simp only [Act.put, List.setIfInBounds_toArray, List.set_cons_zero, List.set_cons_succ]
    refine wpAnyH_takeL (i := 16) (v := (.int .i64 alg)) rfl (by kernel_rfl) (by kernel_rfl) (by kernel_rfl) (fun _ _ _ h => h) (by rfl) ?h16p (by assumption) ?_
    case h16p => intro w hSw; exact R10.exec_load_cell _ _ rfl rfl hSw.h.kb.a Try.underlying3 rfl
    simp only [Act.put, List.setIfInBounds_toArray, List.set_cons_zero, List.set_cons_succ]
    refine wpAnyH_takeL (i := 17) (v := ?v17p) rfl (by kernel_rfl) (by kernel_rfl) (by kernel_rfl) (fun _ _ _ h => h) (by rfl) ?h17p (by assumption) ?_
    case h17p => intro w hSw; go_simp <;> with_reducible rfl
    simp only [Act.put, List.setIfInBounds_toArray, List.set_cons_zero, List.set_cons_succ]
    refine wpAnyH_takeL (i := 19) (v := ?v19p) rfl (by kernel_rfl) (by kernel_rfl) (by kernel_rfl) (fun _ _ _ h => h) (by rfl) ?h19p (by assumption) ?_
    case h19p => intro w hSw; go_simp <;> with_reducible rfl
    simp only [Act.put, List.setIfInBounds_toArray, List.set_cons_zero, List.set_cons_succ]
    refine allReadyH_oneL (i := 18) (by kernel_rfl) rfl (by rfl) (fun K hK => ?_)
    go_simp
    have hr7 := Row.new w6 5 (C .u8 [0])
    have ho7 : (w6.alloc (.cells #[.int .u8 0] 5)).ownsRow w6.heap.size 5 1 (.slice (some ⟨w6.heap.size, 0, none⟩) 1 1) 1 (C .u8 [0]) := R10.own_row hr7 (Nat.le_refl _) rfl (by decide)
    have hb7 : Below w6.heap.size w6 (w6.alloc (.cells #[.int .u8 0] 5)) := R10.below_new _ _
    have hS7 := hS6.below hb7
    refine hK.out _ _ (hS7) (fun hHeld => ?_)
    clear hK K
    refine allReadyH_oneL (i := 20) (by kernel_rfl) rfl (by rfl) (fun K hK => ?_)
    refine R10.wp_append_sl _ _ 22 rfl w6.heap.size 5 _ 1 Try.underlying22 R10.Try.inf8 rfl _ 1 _ rfl ho7 _ (C .u8 so) rfl hS7.b3 (C_one _ _) (by rw [C_length]; unfold maxLen; omega) (by rw [C_length]; omega) (by simp) ?_
    intro v8 w8 ho8 hg8
    have hb8 := hb7.grown hg8 hb7.size (fun k hk => (ho7.lt k hk).1)
    have hS8 := hS6.below hb8
    have hn8 : SlV w8 v8 (C .u8 (0 :: so)) := by have := SlV.ofOwn ho8; rw [← C_append] at this; exact this
    refine hK.out _ _ (hS8) (fun hHeld => ?_)
    clear hK K
    refine allReadyH_oneL (i := 21) (by kernel_rfl) rfl (by rfl) (fun K hK => ?_)
    go_simp
    refine (R10.verify_n alg x1 (0 :: so) _ hS8.h.n hS8.h.e hS8.h.b1 hn8 hlo1 hlo0 (by omega) (by simp; omega) (by decide) (by decide)).mono ?_
    rw [HV2.out]
    rintro _ w9 ⟨rfl, hb9⟩
    have hS9 := hS8.below hb9
    refine hK.out _ _ (hS9) (fun hHeld => ?_)
    clear hK K
    refine wpAnyH_takeL (i := 22) (v := ?v22p) rfl (by kernel_rfl) (by kernel_rfl) (by kernel_rfl) (fun _ _ _ h => h) (by rfl) ?h22p (by assumption) ?_
    case h22p => intro w hSw; go_simp <;> with_reducible rfl
    simp only [Act.put, List.setIfInBounds_toArray, List.set_cons_zero, List.set_cons_succ]
    refine wpAnyH_takeL (i := 23) (v := ?v23p) rfl (by kernel_rfl) (by kernel_rfl) (by kernel_rfl) (fun _ _ _ h => h) (by rfl) ?h23p (by assumption) ?_
    case h23p => intro w hSw; go_simp <;> with_reducible rfl
    simp only [Act.put, List.setIfInBounds_toArray, List.set_cons_zero, List.set_cons_succ]
    refine wpAnyH_done (by kernel_rfl) ?_ _
    refine NoPanic.normal ?_
    have hS10 := hS9
    replace HB := Away.mk (HB.out.trans (((R10.drew_below hb6).trans ((hb8.trans (hb9.mono hb8.size)).mono (R10.drew_below hb6).size)).mono HB.out.size))
    clear hS5 hS6 hS7 hS8 hS9 hr7 ho7 hb7 ho8 hg8 hn8 hb6 hb8 hb9
    go_wp2_with fail
    refine wp_region_noPanic ?_
    refine wp_region_held_drew (S := R10.Hold4 w.heap.size (.slice na nl nc) (.slice ea el ec) (.slice da dl dc) alg N E D 256 (.slice a1 len1 cap1) (.slice a2 len2 cap2) (.slice va so.length vc) (.slice va so.length vc) x1 x2 so so) (by kernel_rfl) (hS10.drew) (fun hHeld => ?_)
    refine wpAnyH_takeL (i := 0) (v := ?v0q) rfl (by kernel_rfl) (by kernel_rfl) (by kernel_rfl) (fun _ _ _ h => h) (by rfl) ?h0q (by assumption) ?_
    case h0q => intro w hSw; go_simp <;> with_reducible rfl
    simp only [Act.put, List.setIfInBounds_toArray, List.set_cons_zero, List.set_cons_succ]
    refine wpAnyH_takeL (i := 1) (v := (.slice na nl nc)) rfl (by kernel_rfl) (by kernel_rfl) (by kernel_rfl) (fun _ _ _ h => h) (by rfl) ?h1q (by assumption) ?_
    case h1q => intro w hSw; exact R10.exec_load_cell _ _ rfl rfl hSw.h.kb.n Try.underlying30 rfl
    simp only [Act.put, List.setIfInBounds_toArray, List.set_cons_zero, List.set_cons_succ]
    refine wpAnyH_takeL (i := 2) (v := ?v2q) rfl (by kernel_rfl) (by kernel_rfl) (by kernel_rfl) (fun _ _ _ h => h) (by rfl) ?h2q (by assumption) ?_
    case h2q => intro w hSw; go_simp <;> with_reducible rfl
    simp only [Act.put, List.setIfInBounds_toArray, List.set_cons_zero, List.set_cons_succ]
    refine wpAnyH_takeL (i := 3) (v := (.slice ea el ec)) rfl (by kernel_rfl) (by kernel_rfl) (by kernel_rfl) (fun _ _ _ h => h) (by rfl) ?h3q (by assumption) ?_
    case h3q => intro w hSw; exact R10.exec_load_cell _ _ rfl rfl hSw.h.kb.e Try.underlying30 rfl
    simp only [Act.put, List.setIfInBounds_toArray, List.set_cons_zero, List.set_cons_succ]
    refine wpAnyH_takeL (i := 4) (v := ?v4q) rfl (by kernel_rfl) (by kernel_rfl) (by kernel_rfl) (fun _ _ _ h => h) (by rfl) ?h4q (by assumption) ?_
    case h4q => intro w hSw; go_simp <;> with_reducible rfl
    simp only [Act.put, List.setIfInBounds_toArray, List.set_cons_zero, List.set_cons_succ]
    refine wpAnyH_takeL (i := 5) (v := (.int .i64 alg)) rfl (by kernel_rfl) (by kernel_rfl) (by kernel_rfl) (fun _ _ _ h => h) (by rfl) ?h5q (by assumption) ?_
    case h5q => intro w hSw; exact R10.exec_load_cell _ _ rfl rfl hSw.h.kb.a Try.underlying3 rfl
    simp only [Act.put, List.setIfInBounds_toArray, List.set_cons_zero, List.set_cons_succ]
    refine wpAnyH_takeL (i := 6) (v := ?v6q) rfl (by kernel_rfl) (by kernel_rfl) (by kernel_rfl) (fun _ _ _ h => h) (by rfl) ?h6q (by assumption) ?_
    case h6q => intro w hSw; go_simp <;> with_reducible rfl
    simp only [Act.put, List.setIfInBounds_toArray, List.set_cons_zero, List.set_cons_succ]
    refine wpAnyH_takeL (i := 7) (v := ?v7q) rfl (by kernel_rfl) (by kernel_rfl) (by kernel_rfl) (fun _ _ _ h => h) (by rfl) ?h7q (by assumption) ?_
    case h7q => intro w hSw; go_simp <;> with_reducible rfl
    simp only [Act.put, List.setIfInBounds_toArray, List.set_cons_zero, List.set_cons_succ]
    refine wpAnyH_takeL (i := 9) (v := ?v9q) rfl (by kernel_rfl) (by kernel_rfl) (by kernel_rfl) (fun _ _ _ h => h) (by rfl) ?h9q (by assumption) ?_
    case h9q => intro w hSw; go_simp <;> with_reducible rfl
    simp only [Act.put, List.setIfInBounds_toArray, List.set_cons_zero, List.set_cons_succ]
    refine wpAnyH_takeL (i := 10) (v := (.string (strOfNums (x2.map Int.ofNat)))) rfl (by kernel_rfl) (by kernel_rfl) (by kernel_rfl) (fun _ _ _ h => h) (by rfl) ?h10q (by assumption) ?_
    case h10q => intro w hSw; exact R10.exec_conv rfl rfl (R10.strR hSw.h.b2)
    simp only [Act.put, List.setIfInBounds_toArray, List.set_cons_zero, List.set_cons_succ]
    refine wpAnyH_takeL (i := 11) (v := ?v11q) rfl (by kernel_rfl) (by kernel_rfl) (by kernel_rfl) (fun _ _ _ h => h) (by rfl) ?h11q (by assumption) ?_
    case h11q => intro w hSw; go_simp <;> with_reducible rfl
    simp only [Act.put, List.setIfInBounds_toArray, List.set_cons_zero, List.set_cons_succ]
    refine wpAnyH_takeL (i := 12) (v := (.string (strOfNums (x1.map Int.ofNat)))) rfl (by kernel_rfl) (by kernel_rfl) (by kernel_rfl) (fun _ _ _ h => h) (by rfl) ?h12q (by assumption) ?_
    case h12q => intro w hSw; exact R10.exec_conv rfl rfl (R10.strR hSw.h.b1)
    simp only [Act.put, List.setIfInBounds_toArray, List.set_cons_zero, List.set_cons_succ]
    refine wpAnyH_takeL (i := 13) (v := (.bool eqv)) rfl (by kernel_rfl) (by kernel_rfl) (by kernel_rfl) (fun _ _ _ h => h) (by rfl) ?h13q (by assumption) ?_
    case h13q => intro w hSw; go_simp; exact HEQ.out
    simp only [Act.put, List.setIfInBounds_toArray, List.set_cons_zero, List.set_cons_succ]
    refine allReadyH_oneL (i := 8) (by kernel_rfl) rfl (by rfl) (fun K hK => ?_)
    go_simp
    refine (R10.verify_n alg x2 so _ hS10.drew.h.n hS10.drew.h.e hS10.drew.h.b2 hS10.drew.b3 hlo2 hlos (by omega) (by omega) (by decide) (by decide)).mono ?_
    rw [HV3.out]
    rintro _ w11 ⟨rfl, hb11⟩
    have hS11 := hS10.drew.below hb11
    refine hK.out _ _ (hS11) (fun hHeld => ?_)
    clear hK K
    refine wpAnyH_takeL (i := 14) (v := ?v14q) rfl (by kernel_rfl) (by kernel_rfl) (by kernel_rfl) (fun _ _ _ h => h) (by rfl) ?h14q (by assumption) ?_
    case h14q => intro w hSw; go_simp <;> with_reducible rfl
    simp only [Act.put, List.setIfInBounds_toArray, List.set_cons_zero, List.set_cons_succ]
    refine wpAnyH_done (by kernel_rfl) ?_ _
    refine NoPanic.normal ?_
    replace HB := Away.mk (HB.out.trans ((R10.drew_below hb11).mono HB.out.size))
    have HS := Away.mk hS11
    clear hS10 hS11 hb11
    go_wp2
    go_loopw [9] (fun iv wr => ∃ i : Nat, i ≤ 12 ∧ iv = .int .i64 (i : Int) ∧ R10.Hold4 w.heap.size (.slice na nl nc) (.slice ea el ec) (.slice da dl dc) alg N E D 256 (.slice a1 len1 cap1) (.slice a2 len2 cap2) (.slice va so.length vc) (.slice va so.length vc) x1 x2 so so wr ∧ Below w.heap.size w wr) (fun i _ => 12 - (intOf i).toNat)
    case atStart => exact ⟨0, by omega, rfl, HS.out, HB.out⟩
    case round =>
      clear HS HB
      obtain ⟨i, hi12, rfl, hS, hb⟩ := hrel
      have HS := Away.mk hS; have HB := Away.mk hb
      have c0 := hS.h.kb.n
      have c1 := hS.h.kb.e
      have c3 := hS.h.kb.a
      clear hS hb
      by_cases hlt : i < 12
      · have d1 : (i : Int) < 12 := by omega
        have e5 : IntKind.i64.wrap ((i : Int) + 1) = ((i + 1 : Nat) : Int) := by rw [IntWalk.i64_in _ ⟨by omega, by omega⟩]; omega
        by_cases hia : (i : Int) = alg
        · go_wp2
          go_roundw
          case rel => exact ⟨i + 1, by omega, by go_num, HS.out, HB.out⟩
          case measure => simp [intOf]; omega
        · have HVA := Away.mk (HV4.out (i : Int) hia)
          go_wp2_with fail
          refine (R10.verify_n (i : Int) x1 so _ HS.out.h.n HS.out.h.e HS.out.h.b1 HS.out.b3 hlo1 hlos (by omega) (by omega) (by decide) (by decide)).mono ?_
          rw [HVA.out]
          rintro _ w13 ⟨rfl, hb13⟩
          replace HS := Away.mk (HS.out.below hb13)
          replace HB := Away.mk (HB.out.trans (hb13.mono HB.out.size))
          clear hb13 c0 c1 c3
          go_wp2
          go_roundw
          case rel => exact ⟨i + 1, by omega, by go_num, HS.out, HB.out⟩
          case measure => simp [intOf]; omega
      · have d1 : ¬ (i : Int) < 12 := by omega
        clear c0 c1 c3
        obtain ⟨b, hbl⟩ : ∃ b, bl N = b := ⟨_, rfl⟩
        have HBL := Away.mk hbl
        have hkb : R10.kl N = (b + 7) / 8 := by rw [← hbl]; rfl
        rw [hbl] at hblN
        have e1 : IntKind.i64.wrap ((b : Int) + 7) = ((b + 7 : Nat) : Int) := by rw [IntWalk.i64_in _ ⟨by omega, by omega⟩]; omega
        obtain ⟨ls, hls⟩ : ∃ l, so.length = l := ⟨_, rfl⟩
        have hfin : (ls : Int) ≤ ((b : Int) + 7) / 8 := by omega
        go_wp2_with fail
        refine (R10.alive10_true _).mono ?_
        rintro _ w14 ⟨rfl, hb14⟩
        replace HS := Away.mk (HS.out.below hb14)
        replace HB := Away.mk (HB.out.trans (hb14.mono HB.out.size))
        clear hb14
        have c0 := HS.out.h.kb.n
        go_wp2_with fail
        refine (bits_n _ HS.out.h.n (by decide)).mono ?_
        rw [HBL.out]
        rintro _ w15 ⟨rfl, hb15⟩
        replace HB := Away.mk (HB.out.trans (hb15.mono HB.out.size))
        clear hb15 c0 hbl hkb
        go_wp2
        go_ret
        exact ⟨rfl, HB.out⟩

set_option maxRecDepth 100000 in
theorem lifted (os : Os) (started : os.Started) (H : Type) (enc : TypeId × Value → H) :
    ReturnsInHanded {} Try.checked os 6 .any (Rows.rsaSignsSpec.pre6 enc Try.prog Try.f6 Rows.rsaSignsRow.domain false) (Rows.rsaSignsSpec.post enc Try.prog Try.f6 false true false false) := by
  refine returnsInHanded_of_change (C := Try.checked) own started (by kernel_rfl) Try.func6
    (ChangeSpec.witness6 (enc := enc) (C := Try.checked) false ⟨#[], #[.agg #[.slice none 0 0, .slice none 0 0, .slice none 0 0, .int .i64 0], .slice none 0 0, .slice none 0 0], []⟩ 8 (by kernel_rfl) (by kernel_rfl) (by kernel_rfl) (by kernel_rfl)) ?_
  intro W base args ds gs before hval0 hW hcnd _
  have hval : ∀ (j : Nat) t v, Try.f6.params[j]? = some t → args[j]? = some v → Value.okWide Try.prog W .any base t v := hval0
  have hW' := hW
  obtain ⟨p, q, hA0, hV, rfl, hfz, hnd⟩ := hW
  have hA : DataW.TrodAll enc Try.prog W 0 (fun _ => true) true Try.f6.params.toList args.toList ds p := hA0
  rw [Try.params6] at hA hval
  obtain ⟨v0, vs0, d0, ds0, p0, q0, hargs, rfl, rfl, h0, r0⟩ := trodAll_cons hA
  obtain ⟨v1, vs1, d1, ds1, p1, q1, rfl, rfl, rfl, h1, r1⟩ := trodAll_cons r0
  obtain ⟨v2, vs2, d2, ds2, p2, q2, rfl, rfl, rfl, h2, r2⟩ := trodAll_cons r1
  obtain ⟨rfl, rfl, rfl⟩ := trodAll_nil r2
  obtain rfl : args = #[v0, v1, v2] := by cases args; simp_all
  obtain ⟨rfl, rfl⟩ := trodVars_none hV
  have k0 := h0
  have lt0 : ∀ x ∈ p0, x.block < W.heap.size := by obtain ⟨m, hm⟩ := k0; exact DataW.trod_lt m _ _ _ hm
  obtain ⟨na, nl, nc, nz, ea, el, ec, ez, da, dl, dc, dz, alg, rfl, wn, we, wd, wa⟩ := R10.open_keyed (hval 0 32 v0 rfl rfl) h0
  have k1 := h1
  have lt1 : ∀ x ∈ p1, x.block < W.heap.size := by obtain ⟨m, hm⟩ := k1; exact DataW.trod_lt m _ _ _ hm
  obtain ⟨a1, len1, cap1, rfl⟩ := okWide_slice Try.underlying22 (hval 1 22 v1 rfl rfl)
  obtain ⟨z1, w1⟩ : ∃ zs, IsRow .u8 W a1 len1 cap1 zs := by
    obtain ⟨fuel, hf⟩ := h1
    rcases open_ints Try.underlying22 Try.underlying5 (by kernel_rfl) hf with ⟨hcs, _⟩ | ⟨x, l, c, zs, hcs, _, hl, hm, hz, _, hcell, hwz⟩
    · simp [Value.cells] at hcs
      obtain ⟨rfl, rfl, rfl⟩ := hcs
      exact ⟨[], .inl ⟨rfl, rfl, rfl, rfl⟩⟩
    · simp [Value.cells] at hcs
      obtain ⟨rfl, rfl, rfl⟩ := hcs
      exact ⟨zs, .inr ⟨_, rfl, hl, hm, by simpa using hz, hcell, hwz⟩⟩
  have k2 := h2
  have lt2 : ∀ x ∈ p2, x.block < W.heap.size := by obtain ⟨m, hm⟩ := k2; exact DataW.trod_lt m _ _ _ hm
  obtain ⟨a2, len2, cap2, rfl⟩ := okWide_slice Try.underlying22 (hval 2 22 v2 rfl rfl)
  obtain ⟨z2, w2⟩ : ∃ zs, IsRow .u8 W a2 len2 cap2 zs := by
    obtain ⟨fuel, hf⟩ := h2
    rcases open_ints Try.underlying22 Try.underlying5 (by kernel_rfl) hf with ⟨hcs, _⟩ | ⟨x, l, c, zs, hcs, _, hl, hm, hz, _, hcell, hwz⟩
    · simp [Value.cells] at hcs
      obtain ⟨rfl, rfl, rfl⟩ := hcs
      exact ⟨[], .inl ⟨rfl, rfl, rfl, rfl⟩⟩
    · simp [Value.cells] at hcs
      obtain ⟨rfl, rfl, rfl⟩ := hcs
      exact ⟨zs, .inr ⟨_, rfl, hl, hm, by simpa using hz, hcell, hwz⟩⟩
  clear hA0 hval0
  refine (walk na nl nc nz ea el ec ez da dl dc dz alg a1 len1 cap1 z1 a2 len2 cap2 z2 W wn we wd wa w1 w2).mono fun e W' ⟨he, bel⟩ => ?_
  subst he
  exact ⟨_, rfl, _, _, _, [], _, [], hW', trodAll_mk1 (shut_bool Try.underlying4 _), (trodAll_cons_mk (Below.trod laidOut (by kernel_rfl) (of_decide_eq_true (by kernel_rfl)) k0 bel lt0) (trodAll_cons_mk (Below.trod laidOut (by kernel_rfl) (of_decide_eq_true (by kernel_rfl)) k1 bel lt1) (trodAll_cons_mk (Below.trod laidOut (by kernel_rfl) (of_decide_eq_true (by kernel_rfl)) k2 bel lt2) trodAll_mk0))), rfl, bel.frame _, fun h => by cases h⟩

theorem over : Rows.rsaSignsRow.holds Try.pinned (OpenSpec.ofChange Rows.rsaSignsSpec) :=
  OpenClaim.holds_of_wide 6 Try.f6 rfl rfl rfl rfl rfl rfl rfl ⟨rfl, rfl, rfl, rfl, rfl⟩ rfl rfl rfl rfl rfl (by kernel_rfl) Try.func6 (by kernel_rfl)
    (of_decide_eq_true (by kernel_rfl)) (by unfold Func.isWrapper; first | (rw [if_pos (by decide +kernel)]; kernel_rfl) | (rw [if_neg (by decide +kernel)]; exact ⟨rfl, rfl⟩))
    (fun os started H enc _ => lifted os started H enc)

end Go.Proofs.Ytbefchlgonlfiaa.rsaSigns
namespace Go.Proofs.Ytbefchlgonlfiaa
/-- The given statement. -/
theorem rsaSigns_proved : Rows.RsaSignsSaid := rsaSigns.over
end Go.Proofs.Ytbefchlgonlfiaa
