/-
  Proved: for every key and every byte slice the law RsaOne returns true, and its arguments read as before. No conditions.
-/
import Derived.Test.YtbefchlgonlfiaaRows
import Derived.Test.YtbefchlgonlfiaaRsaQ
import Derived.Test.YtbefchlgonlfiaaRsJ
import Derived.WalkKit
import Derived.ProofKit
import Derived.OpenShut
import Derived.ShutString
import Derived.ChangeOld
import Derived.Below
namespace Go.Proofs.Ytbefchlgonlfiaa.rsaOne
open Go.ChangeShapes Go.WideShapes Go.ChangeAt Go.RowKit
open Go.ChangeMaps (open_string shut_string)
set_option linter.unusedVariables false

theorem own : ownKnob Try.prog.godebug = none := by kernel_rfl
theorem laidOut : laidOutB Try.prog = true := by kernel_rfl

set_option maxRecDepth 10000 in
set_option maxHeartbeats 8000000 in
/-- The walk: the law returns true and writes nothing that was there. -/
theorem walk (na : Option Addr) (nl nc : Nat) (nz : List Int) (ea : Option Addr) (el ec : Nat) (ez : List Int) (da : Option Addr) (dl dc : Nat) (dz : List Int) (alg : Int) (a1 : Option Addr) (len1 cap1 : Nat) (z1 : List Int) (w : World) (wn : IsRow .u32 w na nl nc nz) (we : IsRow .u32 w ea el ec ez) (wd : IsRow .u32 w da dl dc dz) (wa : (Lit.int .i64 alg).wf = true) (w1 : IsRow .u8 w a1 len1 cap1 z1) :
    Calls Try.prog 8 #[.agg #[.slice na nl nc, .slice ea el ec, .slice da dl dc, .int .i64 alg], .slice a1 len1 cap1] w fun e w' => e = .returned (.bool true) ∧ Below w.heap.size w w' := by
  obtain ⟨N, hN, hni⟩ := R10.num_of_row wn
  obtain ⟨E, hE, hei⟩ := R10.num_of_row we
  obtain ⟨D, hD, hdi⟩ := R10.num_of_row wd
  obtain ⟨x1, hx1, hl1, hlo1, hi1⟩ := R10.bytes_of_row w1
  clear wn we wd wa w1
  have hB : Below w.heap.size w (w.alloc (.cells #[.slice na nl nc, .slice ea el ec, .slice da dl dc, .int .i64 alg] 32)) := (Below.refl _ _).alloc (Nat.le_refl _) _
  obtain ⟨sb, hsb⟩ : ∃ b, (decide (nl ≤ 24) && decide (el ≤ 2) && decide (dl ≤ 24)) = b := ⟨_, rfl⟩
  have HSB := Away.mk hsb
  cases sb with
  | false =>
    clear hsb hN hE hD hx1
    go_enter Try.func8, Try.ntmps8
    go_wp2_with fail
    refine (R10.small_any na nl nc ea el ec da dl dc alg _).mono ?_
    rw [HSB.out]
    rintro _ w1 ⟨rfl, hb1⟩
    have HB := Away.mk (hB.trans (hb1.mono hB.size))
    clear hb1 hB
    go_wp2_with fail
    refine (R10.alive10_true _).mono ?_
    rintro _ w2 ⟨rfl, hb2⟩
    replace HB := Away.mk (HB.out.trans (hb2.mono HB.out.size))
    clear hb2
    go_wp2
    go_ret
    exact ⟨rfl, HB.out⟩
  | true =>
    simp only [Bool.and_eq_true, decide_eq_true_eq] at hsb
    obtain ⟨⟨hn24, he2⟩, hd24⟩ := hsb
    by_cases hl1 : 300 < (len1 : Int)
    · clear hN hE hD hx1
      go_enter Try.func8, Try.ntmps8
      go_wp2_with fail
      refine (R10.small_any na nl nc ea el ec da dl dc alg _).mono ?_
      rw [HSB.out]
      rintro _ w1 ⟨rfl, hb1⟩
      have HB := Away.mk (hB.trans (hb1.mono hB.size))
      clear hb1 hB
      go_wp2_with fail
      refine (R10.alive10_true _).mono ?_
      rintro _ w2 ⟨rfl, hb2⟩
      replace HB := Away.mk (HB.out.trans (hb2.mono HB.out.size))
      clear hb2
      go_wp2
      go_ret
      exact ⟨rfl, HB.out⟩
    have hx1b : x1.length ≤ 10000 := by omega
    have hS0 : R10.Hold w.heap.size (.slice na nl nc) (.slice ea el ec) (.slice da dl dc) alg N E D 24 (.slice a1 len1 cap1) (.slice a1 len1 cap1) x1 x1 (w.alloc (.cells #[.slice na nl nc, .slice ea el ec, .slice da dl dc, .int .i64 alg] 32)) := ⟨R10.KBox.new w _ _ _ alg _, (hN.mono hn24).below hB, (hE.mono he2).below hB, (hD.mono hd24).below hB, hx1.below hB, hx1.below hB⟩
    obtain ⟨se, hse⟩ : ∃ b, R10.serr N E D alg x1 = b := ⟨_, rfl⟩
    obtain ⟨so, hso⟩ : ∃ b, R10.sout N E D alg x1 = b := ⟨_, rfl⟩
    have HSE := Away.mk hse; have HSO := Away.mk hso
    have hlos : Lo 256 so := by rw [← hso]; exact R10.sout_lo _ _ _ _ _
    have hkl24 := R10.num_kl (hN.mono hn24)
    have hsol : so.length ≤ 96 := by have := R10.sout_length N E D alg x1; rw [hso] at this; omega
    have HNLT := Away.mk (hN.mono hn24).lt
    have hblN := (hN.mono hn24).bl
    obtain ⟨S, hS⟩ : ∃ S, R10.ssg N D alg x1 = S := ⟨_, rfl⟩
    have HFacts : Away (se = 0 → val 256 so.reverse = S ∧ S < N ∧ R10.merr alg x1.length (R10.kl N : Nat) = 0) := ⟨fun h0 => by
      subst h0
      have hv := R10.sout_val hse
      obtain ⟨hm, hi⟩ := R10.serr_zero hse
      simp only [R10.isof, Bool.and_eq_true, decide_eq_true_eq] at hi
      rw [hso, hS] at hv
      rw [hS] at hi
      exact ⟨hv, hi.1, hm⟩⟩
    clear hse hso hS hN hE hD hx1
    go_enter Try.func8, Try.ntmps8
    go_wp2_with fail
    refine (R10.small_any na nl nc ea el ec da dl dc alg _).mono ?_
    rw [HSB.out]
    rintro _ w3 ⟨rfl, hb1⟩
    have hS3 := hS0.below hb1
    have HB := Away.mk (hB.trans (hb1.mono hB.size))
    clear hb1 hB hS0
    have HS := Away.mk hS3
    have c0 := hS3.kb.n
    have c1 := hS3.kb.e
    have c2 := hS3.kb.d
    have c3 := hS3.kb.a
    clear hS3
    go_wp2_with fail
    refine (R10.sign_n alg x1 _ HS.out.n HS.out.e HS.out.d HS.out.b1 hlo1 hx1b (by decide) (by decide) (by decide)).mono ?_
    rw [HSE.out, HSO.out]
    rintro _ w4 ⟨v4, rfl, hv4, hb4⟩
    have hS5 : R10.Hold w.heap.size (.slice na nl nc) (.slice ea el ec) (.slice da dl dc) alg N E D 24 (.slice a1 len1 cap1) v4 x1 so w4 := ⟨(HS.out.below hb4).kb, (HS.out.below hb4).n, (HS.out.below hb4).e, (HS.out.below hb4).d, (HS.out.below hb4).b1, hv4⟩
    replace HB := Away.mk (HB.out.trans (hb4.mono HB.out.size))
    clear hv4 hb4 HS c0 c1 c2 c3
    by_cases hse0 : se ≠ 0

    · clear hS5
      go_wp2_with fail
      refine (R10.alive10_true _).mono ?_
      rintro _ w5 ⟨rfl, hb5⟩
      replace HB := Away.mk (HB.out.trans (hb5.mono HB.out.size))
      clear hb5
      go_wp2
      go_ret
      exact ⟨rfl, HB.out⟩
    replace hse0 : se = 0 := by omega
    obtain ⟨hsv, hsn, hme⟩ := HFacts.out hse0
    subst hse0
    have HSV := Away.mk hsv; have HME := Away.mk hme
    have HSK : Away (S < W32 ^ 24) := ⟨Nat.lt_trans hsn HNLT.out⟩
    have HSN : Away (S + N < W32 ^ 25) := ⟨by
      have h1 := HNLT.out
      have h2 : W32 ^ 24 * 2 ≤ W32 ^ 25 := by rw [Nat.pow_succ W32 24]; exact Nat.mul_le_mul_left _ (by decide)
      omega⟩
    have HAL : Away ((be (S + N) (R10.kl (S + N))).length ≤ 1600) := ⟨by
      rw [be_length]
      have := (R10.kl_le (S + N) 100).2 (by rw [show 100 = 4 * 25 from rfl, R10.w32_pow]; exact HSN.out)
      omega⟩
    have HVF : Away (R10.vfy N E alg x1 (be (S + N) (R10.kl (S + N))) = false) := ⟨R10.vfy_above (R10.be_self _)⟩
    have HCM : Away (cmpI S N = -1) := ⟨cmpI_lt hsn⟩
    obtain ⟨b, hbl⟩ : ∃ b, bl N = b := ⟨_, rfl⟩
    have HBL := Away.mk hbl
    have HKL : Away (R10.kl N = (b + 7) / 8) := ⟨by rw [← hbl]; rfl⟩
    rw [hbl] at hblN
    have e1 : IntKind.i64.wrap ((b : Int) + 7) = ((b + 7 : Nat) : Int) := by rw [IntWalk.i64_in _ ⟨by omega, by omega⟩]; omega
    have E3 : Away (IntKind.i64.wrap (((b : Int) + 7).tdiv 8) = ((R10.kl N : Nat) : Int)) := ⟨by rw [Int.tdiv_eq_ediv_of_nonneg (by omega), IntWalk.i64_in _ ⟨by omega, by omega⟩, HKL.out]; omega⟩
    have HML : Away ((R10.mout alg x1 (R10.kl N : Nat)).length = R10.kl N) := ⟨by rw [R10.mout_length hme]; simp⟩
    clear hsv hme hsn hbl HFacts
    go_wp2_with fail
    refine wp_region_noPanic ?_
    refine wp_region_held_drew (S := R10.Hold w.heap.size (.slice na nl nc) (.slice ea el ec) (.slice da dl dc) alg N E D 24 (.slice a1 len1 cap1) v4 x1 so) (by kernel_rfl) (hS5.drew) (fun hHeld => ?_)
    refine wpAnyH_takeL (i := 0) (v := ?v0p) rfl (by kernel_rfl) (by kernel_rfl) (by kernel_rfl) (fun _ _ _ h => h) (by rfl) ?h0p (by assumption) ?_
    case h0p => intro w hSw; go_simp <;> with_reducible rfl
    simp only [Act.put, List.setIfInBounds_toArray, List.set_cons_zero, List.set_cons_succ]
    refine wpAnyH_takeL (i := 2) (v := ?v2p) rfl (by kernel_rfl) (by kernel_rfl) (by kernel_rfl) (fun _ _ _ h => h) (by rfl) ?h2p (by assumption) ?_
    case h2p => intro w hSw; go_simp <;> with_reducible rfl
    simp only [Act.put, List.setIfInBounds_toArray, List.set_cons_zero, List.set_cons_succ]
    refine wpAnyH_takeL (i := 3) (v := (.slice na nl nc)) rfl (by kernel_rfl) (by kernel_rfl) (by kernel_rfl) (fun _ _ _ h => h) (by rfl) ?h3p (by assumption) ?_
    case h3p => intro w hSw; exact R10.exec_load_cell _ _ rfl rfl hSw.kb.n Try.underlying30 rfl
    simp only [Act.put, List.setIfInBounds_toArray, List.set_cons_zero, List.set_cons_succ]
    refine allReadyH_oneL (i := 1) (by kernel_rfl) rfl (by rfl) (fun K hK => ?_)
    go_simp
    refine (read_any _ so _ hS5.drew.b2 hlos (by omega)).mono ?_
    rw [HSV.out]
    rintro _ w6 ⟨v6, rfl, hv6, hb6⟩
    have hS6 := hS5.drew.below hb6
    have hn6 := hv6.ra.num HSK.out
    refine hK.out _ _ (hS6) (fun hHeld => ?_)
    clear hK K
    refine allReadyH_oneL (i := 4) (by kernel_rfl) rfl (by rfl) (fun K hK => ?_)
    go_simp
    refine (add_n _ hn6 hS6.n (by decide) (by decide)).mono ?_
    rintro _ w7 ⟨v7a, rfl, hv7a, hb7⟩
    have hS7 := hS6.below hb7
    have hn7 := hv7a.num HSN.out
    refine hK.out _ _ (hS7) (fun hHeld => ?_)
    clear hK K
    refine allReadyH_oneL (i := 5) (by kernel_rfl) rfl (by rfl) (fun K hK => ?_)
    go_simp
    refine (R10.bytes_n _ hn7 (by decide)).mono ?_
    rintro _ w8 ⟨v7, rfl, hv7, hb8⟩
    have hS8 := hS7.below hb8
    refine hK.out _ _ (hS8) (fun hHeld => ?_)
    clear hK K
    refine wpAnyH_takeL (i := 6) (v := ?v6p) rfl (by kernel_rfl) (by kernel_rfl) (by kernel_rfl) (fun _ _ _ h => h) (by rfl) ?h6p (by assumption) ?_
    case h6p => intro w hSw; go_simp <;> with_reducible rfl
    simp only [Act.put, List.setIfInBounds_toArray, List.set_cons_zero, List.set_cons_succ]
    refine wpAnyH_done (by kernel_rfl) ?_ _
    refine NoPanic.normal ?_
    have hS9 : R10.Hold4 w.heap.size (.slice na nl nc) (.slice ea el ec) (.slice da dl dc) alg N E D 24 (.slice a1 len1 cap1) v4 v7 v7 x1 so (be (S + N) (R10.kl (S + N))) (be (S + N) (R10.kl (S + N))) w8 := ⟨hS8, hv7, hv7⟩
    replace HB := Away.mk (HB.out.trans (((R10.drew_below hb6).trans ((hb7.trans (hb8.mono hb7.size)).mono (R10.drew_below hb6).size)).mono HB.out.size))
    clear hS5 hS6 hS7 hS8 hv6 hv7a hn6 hn7 hv7 hb6 hb7 hb8
    go_wp2_with fail
    refine wp_region_noPanic ?_
    refine wp_region_held_drew (S := R10.Hold4 w.heap.size (.slice na nl nc) (.slice ea el ec) (.slice da dl dc) alg N E D 24 (.slice a1 len1 cap1) v4 v7 v7 x1 so (be (S + N) (R10.kl (S + N))) (be (S + N) (R10.kl (S + N)))) (by kernel_rfl) (hS9.drew) (fun hHeld => ?_)
    refine wpAnyH_takeL (i := 0) (v := ?v0q) rfl (by kernel_rfl) (by kernel_rfl) (by kernel_rfl) (fun _ _ _ h => h) (by rfl) ?h0q (by assumption) ?_
    case h0q => intro w hSw; go_simp <;> with_reducible rfl
    simp only [Act.put, List.setIfInBounds_toArray, List.set_cons_zero, List.set_cons_succ]
    refine wpAnyH_takeL (i := 1) (v := (.int .i64 alg)) rfl (by kernel_rfl) (by kernel_rfl) (by kernel_rfl) (fun _ _ _ h => h) (by rfl) ?h1q (by assumption) ?_
    case h1q => intro w hSw; exact R10.exec_load_cell _ _ rfl rfl hSw.h.kb.a Try.underlying3 rfl
    simp only [Act.put, List.setIfInBounds_toArray, List.set_cons_zero, List.set_cons_succ]
    refine wpAnyH_takeL (i := 2) (v := ?v2q) rfl (by kernel_rfl) (by kernel_rfl) (by kernel_rfl) (fun _ _ _ h => h) (by rfl) ?h2q (by assumption) ?_
    case h2q => intro w hSw; go_simp <;> with_reducible rfl
    simp only [Act.put, List.setIfInBounds_toArray, List.set_cons_zero, List.set_cons_succ]
    refine wpAnyH_takeL (i := 3) (v := ?v3q) rfl (by kernel_rfl) (by kernel_rfl) (by kernel_rfl) (fun _ _ _ h => h) (by rfl) ?h3q (by assumption) ?_
    case h3q => intro w hSw; go_simp <;> with_reducible rfl
    simp only [Act.put, List.setIfInBounds_toArray, List.set_cons_zero, List.set_cons_succ]
    refine wpAnyH_takeL (i := 4) (v := (.slice na nl nc)) rfl (by kernel_rfl) (by kernel_rfl) (by kernel_rfl) (fun _ _ _ h => h) (by rfl) ?h4q (by assumption) ?_
    case h4q => intro w hSw; exact R10.exec_load_cell _ _ rfl rfl hSw.h.kb.n Try.underlying30 rfl
    simp only [Act.put, List.setIfInBounds_toArray, List.set_cons_zero, List.set_cons_succ]
    refine allReadyH_oneL (i := 5) (by kernel_rfl) rfl (by rfl) (fun K hK => ?_)
    go_simp
    refine (bits_n _ hS9.drew.h.n (by decide)).mono ?_
    rw [HBL.out]
    rintro _ w10 ⟨rfl, hb10⟩
    have hS10 := hS9.drew.below hb10
    refine hK.out _ _ (hS10) (fun hHeld => ?_)
    clear hK K
    refine wpAnyH_takeL (i := 6) (v := ?v6q) rfl (by kernel_rfl) (by kernel_rfl) (by kernel_rfl) (fun _ _ _ h => h) (by rfl) ?h6q (by assumption) ?_
    case h6q => intro w hSw; go_simp <;> with_reducible rfl
    simp only [Act.put, List.setIfInBounds_toArray, List.set_cons_zero, List.set_cons_succ]
    refine wpAnyH_takeL (i := 7) (v := (.int .i64 ((R10.kl N : Nat) : Int))) rfl (by kernel_rfl) (by kernel_rfl) (by kernel_rfl) (fun _ _ _ h => h) (by rfl) ?h7q (by assumption) ?_
    case h7q => intro w hSw; go_simp; rw [E3.out]
    simp only [Act.put, List.setIfInBounds_toArray, List.set_cons_zero, List.set_cons_succ]
    refine allReadyH_oneL (i := 8) (by kernel_rfl) rfl (by rfl) (fun K hK => ?_)
    go_simp
    refine (R10.message_any alg _ x1 (R10.kl N : Nat) _ ⟨by omega, by omega⟩ hS10.h.b1 (by omega)).mono ?_
    rw [HME.out]
    rintro _ w11 ⟨v9, rfl, hv9, hb11⟩
    have hS11 := hS10.below hb11
    refine hK.out _ _ (hS11) (fun hHeld => ?_)
    clear hK K
    refine wpAnyH_takeL (i := 9) (v := ?v9q) rfl (by kernel_rfl) (by kernel_rfl) (by kernel_rfl) (fun _ _ _ h => h) (by rfl) ?h9q (by assumption) ?_
    case h9q => intro w hSw; go_simp <;> with_reducible rfl
    simp only [Act.put, List.setIfInBounds_toArray, List.set_cons_zero, List.set_cons_succ]
    refine wpAnyH_takeL (i := 10) (v := ?v10q) rfl (by kernel_rfl) (by kernel_rfl) (by kernel_rfl) (fun _ _ _ h => h) (by rfl) ?h10q (by assumption) ?_
    case h10q => intro w hSw; go_simp <;> with_reducible rfl
    simp only [Act.put, List.setIfInBounds_toArray, List.set_cons_zero, List.set_cons_succ]
    refine wpAnyH_takeL (i := 11) (v := ?v11q) rfl (by kernel_rfl) (by kernel_rfl) (by kernel_rfl) (fun _ _ _ h => h) (by rfl) ?h11q (by assumption) ?_
    case h11q => intro w hSw; go_simp <;> with_reducible rfl
    simp only [Act.put, List.setIfInBounds_toArray, List.set_cons_zero, List.set_cons_succ]
    refine wpAnyH_takeL (i := 12) (v := ?v12q) rfl (by kernel_rfl) (by kernel_rfl) (by kernel_rfl) (fun _ _ _ h => h) (by rfl) ?h12q (by assumption) ?_
    case h12q => intro w hSw; go_simp <;> with_reducible rfl
    simp only [Act.put, List.setIfInBounds_toArray, List.set_cons_zero, List.set_cons_succ]
    refine wpAnyH_takeL (i := 13) (v := ?v13q) rfl (by kernel_rfl) (by kernel_rfl) (by kernel_rfl) (fun _ _ _ h => h) (by rfl) ?h13q (by assumption) ?_
    case h13q => intro w hSw; go_simp <;> with_reducible rfl
    simp only [Act.put, List.setIfInBounds_toArray, List.set_cons_zero, List.set_cons_succ]
    refine wpAnyH_done (by kernel_rfl) ?_ _
    refine NoPanic.normal ?_
    have hS12 : R10.Hold4 w.heap.size (.slice na nl nc) (.slice ea el ec) (.slice da dl dc) alg N E D 24 (.slice a1 len1 cap1) v4 v7 v9 x1 so (be (S + N) (R10.kl (S + N))) (R10.mout alg x1 (R10.kl N : Nat)) w11 := ⟨hS11.h, hS11.b3, hv9⟩
    replace HB := Away.mk (HB.out.trans (((R10.drew_below hb10).trans (hb11.mono (R10.drew_below hb10).size)).mono HB.out.size))
    obtain ⟨m0, mc, rfl, r1, r2⟩ := hv9.shp HML.out
    clear hS9 hS10 hS11 hv9 hb10 hb11
    go_wp2_with fail
    refine wp_region_noPanic ?_
    refine wp_region_held_drew (S := R10.Hold4 w.heap.size (.slice na nl nc) (.slice ea el ec) (.slice da dl dc) alg N E D 24 (.slice a1 len1 cap1) v4 v7 (.slice m0 (R10.kl N) mc) x1 so (be (S + N) (R10.kl (S + N))) (R10.mout alg x1 (R10.kl N : Nat))) (by kernel_rfl) (hS12.drew) (fun hHeld => ?_)
    refine allReadyH_oneL (i := 0) (by kernel_rfl) rfl (by rfl) (fun K hK => ?_)
    go_simp
    refine (R10.alive10_true _).mono ?_
    rintro _ w13 ⟨rfl, hb13⟩
    have hS13 := hS12.drew.below hb13
    refine hK.out _ _ (hS13) (fun hHeld => ?_)
    clear hK K
    refine wpAnyH_takeL (i := 1) (v := ?v1r) rfl (by kernel_rfl) (by kernel_rfl) (by kernel_rfl) (fun _ _ _ h => h) (by rfl) ?h1r (by assumption) ?_
    case h1r => intro w hSw; go_simp <;> with_reducible rfl
    simp only [Act.put, List.setIfInBounds_toArray, List.set_cons_zero, List.set_cons_succ]
    refine wpAnyH_takeL (i := 2) (v := ?v2r) rfl (by kernel_rfl) (by kernel_rfl) (by kernel_rfl) (fun _ _ _ h => h) (by rfl) ?h2r (by assumption) ?_
    case h2r => intro w hSw; go_simp <;> with_reducible rfl
    simp only [Act.put, List.setIfInBounds_toArray, List.set_cons_zero, List.set_cons_succ]
    refine wpAnyH_takeL (i := 3) (v := (.slice na nl nc)) rfl (by kernel_rfl) (by kernel_rfl) (by kernel_rfl) (fun _ _ _ h => h) (by rfl) ?h3r (by assumption) ?_
    case h3r => intro w hSw; exact R10.exec_load_cell _ _ rfl rfl hSw.h.kb.n Try.underlying30 rfl
    simp only [Act.put, List.setIfInBounds_toArray, List.set_cons_zero, List.set_cons_succ]
    refine wpAnyH_takeL (i := 4) (v := ?v4r) rfl (by kernel_rfl) (by kernel_rfl) (by kernel_rfl) (fun _ _ _ h => h) (by rfl) ?h4r (by assumption) ?_
    case h4r => intro w hSw; go_simp <;> with_reducible rfl
    simp only [Act.put, List.setIfInBounds_toArray, List.set_cons_zero, List.set_cons_succ]
    refine wpAnyH_takeL (i := 5) (v := (.slice ea el ec)) rfl (by kernel_rfl) (by kernel_rfl) (by kernel_rfl) (fun _ _ _ h => h) (by rfl) ?h5r (by assumption) ?_
    case h5r => intro w hSw; exact R10.exec_load_cell _ _ rfl rfl hSw.h.kb.e Try.underlying30 rfl
    simp only [Act.put, List.setIfInBounds_toArray, List.set_cons_zero, List.set_cons_succ]
    refine wpAnyH_takeL (i := 6) (v := ?v6r) rfl (by kernel_rfl) (by kernel_rfl) (by kernel_rfl) (fun _ _ _ h => h) (by rfl) ?h6r (by assumption) ?_
    case h6r => intro w hSw; go_simp <;> with_reducible rfl
    simp only [Act.put, List.setIfInBounds_toArray, List.set_cons_zero, List.set_cons_succ]
    refine wpAnyH_takeL (i := 7) (v := (.int .i64 alg)) rfl (by kernel_rfl) (by kernel_rfl) (by kernel_rfl) (fun _ _ _ h => h) (by rfl) ?h7r (by assumption) ?_
    case h7r => intro w hSw; exact R10.exec_load_cell _ _ rfl rfl hSw.h.kb.a Try.underlying3 rfl
    simp only [Act.put, List.setIfInBounds_toArray, List.set_cons_zero, List.set_cons_succ]
    refine wpAnyH_takeL (i := 8) (v := ?v8r) rfl (by kernel_rfl) (by kernel_rfl) (by kernel_rfl) (fun _ _ _ h => h) (by rfl) ?h8r (by assumption) ?_
    case h8r => intro w hSw; go_simp <;> with_reducible rfl
    simp only [Act.put, List.setIfInBounds_toArray, List.set_cons_zero, List.set_cons_succ]
    refine wpAnyH_takeL (i := 9) (v := ?v9r) rfl (by kernel_rfl) (by kernel_rfl) (by kernel_rfl) (fun _ _ _ h => h) (by rfl) ?h9r (by assumption) ?_
    case h9r => intro w hSw; go_simp <;> with_reducible rfl
    simp only [Act.put, List.setIfInBounds_toArray, List.set_cons_zero, List.set_cons_succ]
    refine allReadyH_oneL (i := 10) (by kernel_rfl) rfl (by rfl) (fun K hK => ?_)
    go_simp
    refine (R10.verify_n alg x1 _ _ hS13.h.n hS13.h.e hS13.h.b1 hS13.b3 hlo1 (be_lo _ _) hx1b HAL.out (by decide) (by decide)).mono ?_
    rw [HVF.out]
    rintro _ w14 ⟨rfl, hb14⟩
    have hS14 := hS13.below hb14
    refine hK.out _ _ (hS14) (fun hHeld => ?_)
    clear hK K
    refine wpAnyH_takeL (i := 11) (v := ?v11r) rfl (by kernel_rfl) (by kernel_rfl) (by kernel_rfl) (fun _ _ _ h => h) (by rfl) ?h11r (by assumption) ?_
    case h11r => intro w hSw; go_simp <;> with_reducible rfl
    simp only [Act.put, List.setIfInBounds_toArray, List.set_cons_zero, List.set_cons_succ]
    refine wpAnyH_takeL (i := 12) (v := ?v12r) rfl (by kernel_rfl) (by kernel_rfl) (by kernel_rfl) (fun _ _ _ h => h) (by rfl) ?h12r (by assumption) ?_
    case h12r => intro w hSw; go_simp <;> with_reducible rfl
    simp only [Act.put, List.setIfInBounds_toArray, List.set_cons_zero, List.set_cons_succ]
    refine wpAnyH_takeL (i := 13) (v := ?v13r) rfl (by kernel_rfl) (by kernel_rfl) (by kernel_rfl) (fun _ _ _ h => h) (by rfl) ?h13r (by assumption) ?_
    case h13r => intro w hSw; go_simp <;> with_reducible rfl
    simp only [Act.put, List.setIfInBounds_toArray, List.set_cons_zero, List.set_cons_succ]
    refine wpAnyH_takeL (i := 14) (v := ?v14r) rfl (by kernel_rfl) (by kernel_rfl) (by kernel_rfl) (fun _ _ _ h => h) (by rfl) ?h14r (by assumption) ?_
    case h14r => intro w hSw; go_simp <;> with_reducible rfl
    simp only [Act.put, List.setIfInBounds_toArray, List.set_cons_zero, List.set_cons_succ]
    refine wpAnyH_takeL (i := 15) (v := ?v15r) rfl (by kernel_rfl) (by kernel_rfl) (by kernel_rfl) (fun _ _ _ h => h) (by rfl) ?h15r (by assumption) ?_
    case h15r => intro w hSw; go_simp <;> with_reducible rfl
    simp only [Act.put, List.setIfInBounds_toArray, List.set_cons_zero, List.set_cons_succ]
    refine wpAnyH_takeL (i := 16) (v := ?v16r) rfl (by kernel_rfl) (by kernel_rfl) (by kernel_rfl) (fun _ _ _ h => h) (by rfl) ?h16r (by assumption) ?_
    case h16r => intro w hSw; go_simp <;> with_reducible rfl
    simp only [Act.put, List.setIfInBounds_toArray, List.set_cons_zero, List.set_cons_succ]
    refine wpAnyH_takeL (i := 17) (v := ?v17r) rfl (by kernel_rfl) (by kernel_rfl) (by kernel_rfl) (fun _ _ _ h => h) (by rfl) ?h17r (by assumption) ?_
    case h17r => intro w hSw; go_simp <;> with_reducible rfl
    simp only [Act.put, List.setIfInBounds_toArray, List.set_cons_zero, List.set_cons_succ]
    refine wpAnyH_takeL (i := 18) (v := ?v18r) rfl (by kernel_rfl) (by kernel_rfl) (by kernel_rfl) (fun _ _ _ h => h) (by rfl) ?h18r (by assumption) ?_
    case h18r => intro w hSw; go_simp <;> with_reducible rfl
    simp only [Act.put, List.setIfInBounds_toArray, List.set_cons_zero, List.set_cons_succ]
    refine wpAnyH_takeL (i := 19) (v := ?v19r) rfl (by kernel_rfl) (by kernel_rfl) (by kernel_rfl) (fun _ _ _ h => h) (by rfl) ?h19r (by assumption) ?_
    case h19r => intro w hSw; go_simp <;> with_reducible rfl
    simp only [Act.put, List.setIfInBounds_toArray, List.set_cons_zero, List.set_cons_succ]
    refine wpAnyH_takeL (i := 20) (v := ?v20r) rfl (by kernel_rfl) (by kernel_rfl) (by kernel_rfl) (fun _ _ _ h => h) (by rfl) ?h20r (by assumption) ?_
    case h20r => intro w hSw; go_simp <;> with_reducible rfl
    simp only [Act.put, List.setIfInBounds_toArray, List.set_cons_zero, List.set_cons_succ]
    refine wpAnyH_takeL (i := 21) (v := (.slice na nl nc)) rfl (by kernel_rfl) (by kernel_rfl) (by kernel_rfl) (fun _ _ _ h => h) (by rfl) ?h21r (by assumption) ?_
    case h21r => intro w hSw; exact R10.exec_load_cell _ _ rfl rfl hSw.h.kb.n Try.underlying30 rfl
    simp only [Act.put, List.setIfInBounds_toArray, List.set_cons_zero, List.set_cons_succ]
    refine allReadyH_oneL (i := 22) (by kernel_rfl) rfl (by rfl) (fun K hK => ?_)
    go_simp
    refine (bits_n _ hS14.h.n (by decide)).mono ?_
    rw [HBL.out]
    rintro _ w15 ⟨rfl, hb15⟩
    have hS15 := hS14.below hb15
    refine hK.out _ _ (hS15) (fun hHeld => ?_)
    clear hK K
    refine wpAnyH_takeL (i := 23) (v := ?v23r) rfl (by kernel_rfl) (by kernel_rfl) (by kernel_rfl) (fun _ _ _ h => h) (by rfl) ?h23r (by assumption) ?_
    case h23r => intro w hSw; go_simp <;> with_reducible rfl
    simp only [Act.put, List.setIfInBounds_toArray, List.set_cons_zero, List.set_cons_succ]
    refine wpAnyH_takeL (i := 24) (v := (.int .i64 ((R10.kl N : Nat) : Int))) rfl (by kernel_rfl) (by kernel_rfl) (by kernel_rfl) (fun _ _ _ h => h) (by rfl) ?h24r (by assumption) ?_
    case h24r => intro w hSw; go_simp; rw [E3.out]
    simp only [Act.put, List.setIfInBounds_toArray, List.set_cons_zero, List.set_cons_succ]
    refine wpAnyH_takeL (i := 25) (v := ?v25r) rfl (by kernel_rfl) (by kernel_rfl) (by kernel_rfl) (fun _ _ _ h => h) (by rfl) ?h25r (by assumption) ?_
    case h25r => intro w hSw; go_simp <;> with_reducible rfl
    simp only [Act.put, List.setIfInBounds_toArray, List.set_cons_zero, List.set_cons_succ]
    refine wpAnyH_takeL (i := 26) (v := ?v26r) rfl (by kernel_rfl) (by kernel_rfl) (by kernel_rfl) (fun _ _ _ h => h) (by rfl) ?h26r (by assumption) ?_
    case h26r => intro w hSw; go_simp <;> with_reducible rfl
    simp only [Act.put, List.setIfInBounds_toArray, List.set_cons_zero, List.set_cons_succ]
    refine wpAnyH_takeL (i := 27) (v := ?v27r) rfl (by kernel_rfl) (by kernel_rfl) (by kernel_rfl) (fun _ _ _ h => h) (by rfl) ?h27r (by assumption) ?_
    case h27r => intro w hSw; go_simp <;> with_reducible rfl
    simp only [Act.put, List.setIfInBounds_toArray, List.set_cons_zero, List.set_cons_succ]
    refine wpAnyH_takeL (i := 28) (v := ?v28r) rfl (by kernel_rfl) (by kernel_rfl) (by kernel_rfl) (fun _ _ _ h => h) (by rfl) ?h28r (by assumption) ?_
    case h28r => intro w hSw; go_simp <;> with_reducible rfl
    simp only [Act.put, List.setIfInBounds_toArray, List.set_cons_zero, List.set_cons_succ]
    refine wpAnyH_takeL (i := 30) (v := ?v30r) rfl (by kernel_rfl) (by kernel_rfl) (by kernel_rfl) (fun _ _ _ h => h) (by rfl) ?h30r (by assumption) ?_
    case h30r => intro w hSw; go_simp <;> with_reducible rfl
    simp only [Act.put, List.setIfInBounds_toArray, List.set_cons_zero, List.set_cons_succ]
    refine wpAnyH_takeL (i := 31) (v := (.slice na nl nc)) rfl (by kernel_rfl) (by kernel_rfl) (by kernel_rfl) (fun _ _ _ h => h) (by rfl) ?h31r (by assumption) ?_
    case h31r => intro w hSw; exact R10.exec_load_cell _ _ rfl rfl hSw.h.kb.n Try.underlying30 rfl
    simp only [Act.put, List.setIfInBounds_toArray, List.set_cons_zero, List.set_cons_succ]
    refine allReadyH_oneL (i := 29) (by kernel_rfl) rfl (by rfl) (fun K hK => ?_)
    go_simp
    refine (read_any _ so _ hS15.h.b2 hlos (by omega)).mono ?_
    rw [HSV.out]
    rintro _ w16 ⟨v16, rfl, hv16, hb16⟩
    have hS16 := hS15.below hb16
    have hn16 := hv16.ra.num HSK.out
    refine hK.out _ _ (hS16) (fun hHeld => ?_)
    clear hK K
    refine allReadyH_oneL (i := 32) (by kernel_rfl) rfl (by rfl) (fun K hK => ?_)
    go_simp
    refine (R10.refcmp_n _ hn16 hS16.h.n (by decide) (by decide)).mono ?_
    rw [HCM.out]
    rintro _ w17 ⟨rfl, hb17⟩
    have hS17 := hS16.below hb17
    refine hK.out _ _ (hS17) (fun hHeld => ?_)
    clear hK K
    refine wpAnyH_takeL (i := 33) (v := ?v33r) rfl (by kernel_rfl) (by kernel_rfl) (by kernel_rfl) (fun _ _ _ h => h) (by rfl) ?h33r (by assumption) ?_
    case h33r => intro w hSw; go_simp <;> with_reducible rfl
    simp only [Act.put, List.setIfInBounds_toArray, List.set_cons_zero, List.set_cons_succ]
    refine wpAnyH_takeL (i := 34) (v := ?v34r) rfl (by kernel_rfl) (by kernel_rfl) (by kernel_rfl) (fun _ _ _ h => h) (by rfl) ?h34r (by assumption) ?_
    case h34r => intro w hSw; go_simp <;> with_reducible rfl
    simp only [Act.put, List.setIfInBounds_toArray, List.set_cons_zero, List.set_cons_succ]
    refine wpAnyH_takeL (i := 35) (v := ?v35r) rfl (by kernel_rfl) (by kernel_rfl) (by kernel_rfl) (fun _ _ _ h => h) (by rfl) ?h35r (by assumption) ?_
    case h35r => intro w hSw; go_simp <;> with_reducible rfl
    simp only [Act.put, List.setIfInBounds_toArray, List.set_cons_zero, List.set_cons_succ]
    refine wpAnyH_done (by kernel_rfl) ?_ _
    refine NoPanic.normal ?_
    replace HB := Away.mk (HB.out.trans (((R10.drew_below hb13).trans ((hb14.trans ((hb15.trans ((hb16.trans (hb17.mono hb16.size)).mono hb15.size)).mono hb14.size)).mono (R10.drew_below hb13).size)).mono HB.out.size))
    clear hS12 hS13 hS14 hS15 hS16 hS17 hv16 hn16 hb13 hb14 hb15 hb16 hb17
    go_wp2
    go_ret
    exact ⟨rfl, HB.out⟩

set_option maxRecDepth 100000 in
theorem lifted (os : Os) (started : os.Started) (H : Type) (enc : TypeId × Value → H) :
    ReturnsInHanded {} Try.checked os 8 .any (Rows.rsaOneSpec.pre6 enc Try.prog Try.f8 Rows.rsaOneRow.domain false) (Rows.rsaOneSpec.post enc Try.prog Try.f8 false true false false) := by
  refine returnsInHanded_of_change (C := Try.checked) own started (by kernel_rfl) Try.func8
    (ChangeSpec.witness6 (enc := enc) (C := Try.checked) false ⟨#[], #[.agg #[.slice none 0 0, .slice none 0 0, .slice none 0 0, .int .i64 0], .slice none 0 0], []⟩ 8 (by kernel_rfl) (by kernel_rfl) (by kernel_rfl) (by kernel_rfl)) ?_
  intro W base args ds gs before hval0 hW hcnd _
  have hval : ∀ (j : Nat) t v, Try.f8.params[j]? = some t → args[j]? = some v → Value.okWide Try.prog W .any base t v := hval0
  have hW' := hW
  obtain ⟨p, q, hA0, hV, rfl, hfz, hnd⟩ := hW
  have hA : DataW.TrodAll enc Try.prog W 0 (fun _ => true) true Try.f8.params.toList args.toList ds p := hA0
  rw [Try.params8] at hA hval
  obtain ⟨v0, vs0, d0, ds0, p0, q0, hargs, rfl, rfl, h0, r0⟩ := trodAll_cons hA
  obtain ⟨v1, vs1, d1, ds1, p1, q1, rfl, rfl, rfl, h1, r1⟩ := trodAll_cons r0
  obtain ⟨rfl, rfl, rfl⟩ := trodAll_nil r1
  obtain rfl : args = #[v0, v1] := by cases args; simp_all
  obtain ⟨rfl, rfl⟩ := trodVars_none hV
  have k0 := h0
  have lt0 : ∀ x ∈ p0, x.block < W.heap.size := by obtain ⟨m, hm⟩ := k0; exact DataW.trod_lt m _ _ _ hm
  obtain ⟨na, nl, nc, nz, ea, el, ec, ez, da, dl, dc, dz, alg, rfl, wn, we, wd, wa⟩ := R10.open_keyed (hval 0 32 v0 rfl rfl) h0
  have k1 := h1
  have lt1 : ∀ x ∈ p1, x.block < W.heap.size := by obtain ⟨m, hm⟩ := k1; exact DataW.trod_lt m _ _ _ hm
  obtain ⟨a1, len1, cap1, rfl⟩ := okWide_slice Try.underlying22 (hval 1 22 v1 rfl rfl)
  obtain ⟨z1, w1⟩ : ∃ zs, IsRow .u8 W a1 len1 cap1 zs := by
    obtain ⟨fuel, hf⟩ := h1
    rcases open_ints Try.underlying22 Try.underlying5 (by kernel_rfl) hf with ⟨hcs, _⟩ | ⟨x, l, c, zs, hcs, _, hl, hm, hz, _, hcell, hwz⟩
    · simp [Value.cells] at hcs
      obtain ⟨rfl, rfl, rfl⟩ := hcs
      exact ⟨[], .inl ⟨rfl, rfl, rfl, rfl⟩⟩
    · simp [Value.cells] at hcs
      obtain ⟨rfl, rfl, rfl⟩ := hcs
      exact ⟨zs, .inr ⟨_, rfl, hl, hm, by simpa using hz, hcell, hwz⟩⟩
  clear hA0 hval0
  refine (walk na nl nc nz ea el ec ez da dl dc dz alg a1 len1 cap1 z1 W wn we wd wa w1).mono fun e W' ⟨he, bel⟩ => ?_
  subst he
  exact ⟨_, rfl, _, _, _, [], _, [], hW', trodAll_mk1 (shut_bool Try.underlying4 _), (trodAll_cons_mk (Below.trod laidOut (by kernel_rfl) (of_decide_eq_true (by kernel_rfl)) k0 bel lt0) (trodAll_cons_mk (Below.trod laidOut (by kernel_rfl) (of_decide_eq_true (by kernel_rfl)) k1 bel lt1) trodAll_mk0)), rfl, bel.frame _, fun h => by cases h⟩

theorem over : Rows.rsaOneRow.holds Try.pinned (OpenSpec.ofChange Rows.rsaOneSpec) :=
  OpenClaim.holds_of_wide 8 Try.f8 rfl rfl rfl rfl rfl rfl rfl ⟨rfl, rfl, rfl, rfl, rfl⟩ rfl rfl rfl rfl rfl (by kernel_rfl) Try.func8 (by kernel_rfl)
    (of_decide_eq_true (by kernel_rfl)) (by unfold Func.isWrapper; first | (rw [if_pos (by decide +kernel)]; kernel_rfl) | (rw [if_neg (by decide +kernel)]; exact ⟨rfl, rfl⟩))
    (fun os started H enc _ => lifted os started H enc)

end Go.Proofs.Ytbefchlgonlfiaa.rsaOne
namespace Go.Proofs.Ytbefchlgonlfiaa
/-- The given statement. -/
theorem rsaOne_proved : Rows.RsaOneSaid := rsaOne.over
end Go.Proofs.Ytbefchlgonlfiaa
