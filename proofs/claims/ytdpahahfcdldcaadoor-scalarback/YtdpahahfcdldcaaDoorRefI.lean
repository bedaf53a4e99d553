/-
  Contract of the document's next, over this seat's translation. Conditions: the divisor is not nought, the dividend is less than the divisor times the base.
-/
import Derived.Test.YtdpahahfcdldcaaDoorRefH
namespace Go.Proofs.YtdpahahfcdldcaaDoor
open Go.RowKit
set_option linter.unusedVariables false

theorem next_ge {R D P top b : Nat} (hP : 0 < P) (ht : R / P = top) (hb : D / P = b) (hb0 : 0 < b) (hD : 0 < D) : R / D ≤ top / b := by
  rw [Nat.le_div_iff_mul_le hb0, ← ht, Nat.le_div_iff_mul_le hP]
  have h1 : b * P ≤ D := by rw [← hb]; exact Nat.div_mul_le_self _ _
  calc R / D * b * P = R / D * (b * P) := Nat.mul_assoc _ _ _
    _ ≤ R / D * D := Nat.mul_le_mul_left _ h1
    _ ≤ R := Nat.div_mul_le_self _ _
/-- The highest digits: what is left of the numbers without the others. -/
theorem next_top3 {rs : List Nat} {e : Nat} (hl : Lo W16 rs) (hR : val W16 rs < W16 ^ (e + 3)) : val W16 rs / W16 ^ e = (rs.getD (e + 2) 0 * 65536 + rs.getD (e + 1) 0) * 65536 + rs.getD e 0 := by
  rw [getD_val (by decide) hl, getD_val (by decide) hl, getD_val (by decide) hl, Nat.pow_succ, Nat.pow_succ, ← Nat.div_div_eq_div_mul, ← Nat.div_div_eq_div_mul]
  have h : val W16 rs / W16 ^ e < W16 ^ 3 := Nat.div_lt_of_lt_mul (by rw [← Nat.pow_add]; exact hR)
  generalize val W16 rs / W16 ^ e = t at *
  simp only [W16] at *
  omega
theorem next_top2 {rs : List Nat} {e : Nat} (hl : Lo W16 rs) (hR : val W16 rs < W16 ^ (e + 2)) : val W16 rs / W16 ^ e = rs.getD (e + 1) 0 * 65536 + rs.getD e 0 := by
  rw [getD_val (by decide) hl, getD_val (by decide) hl, Nat.pow_succ, ← Nat.div_div_eq_div_mul]
  have h : val W16 rs / W16 ^ e < W16 ^ 2 := Nat.div_lt_of_lt_mul (by rw [← Nat.pow_add]; exact hR)
  generalize val W16 rs / W16 ^ e = t at *
  simp only [W16] at *
  omega

set_option maxHeartbeats 4000000 in
theorem next_any (vr vy : Value) (rs ys : List Nat) (D : Nat) (w : World) (hr : SlV w vr (C .u64 rs)) (hy : SlV w vy (C .u64 ys)) (hrl : Lo W16 rs) (hI : Is W16 D ys) (hD : 0 < D) (hrm : rs.length ≤ 300000) (hym : ys.length ≤ 300000) (hlt : val W16 rs < D * 65536) :
    Calls Tryd.prog 56 #[vr, vy] w fun e w' => e = .returned (.int .u64 (val W16 rs / D : Nat)) ∧ Below w.heap.size w w' := by
  obtain ⟨n, hn⟩ : ∃ n, ys.length = n := ⟨_, rfl⟩
  have hnp : n ≠ 0 := by
    rintro rfl
    obtain rfl := List.eq_nil_of_length_eq_zero hn
    have : D = 0 := hI.1.symm
    omega
  obtain ⟨n1, hn1⟩ : ∃ n1, n = n1 + 1 := ⟨n - 1, by omega⟩
  have hyl := hI.2.1
  have hDv := hI.1
  have hlast := hI.last (by decide) (by omega)
  rw [hn, hn1, Nat.add_sub_cancel] at hlast
  have hDlt : D < W16 ^ n := hI.val_lt (by decide) (by omega)
  have hRlt : val W16 rs < W16 ^ (n + 1) := Nat.lt_of_lt_of_le hlt (by rw [Nat.pow_succ]; exact Nat.mul_le_mul_right _ (by omega))
  have HDig := fun i hi x hx => digit_any vr rs i x hx (by omega) hi
  have HT := fun q hq x hx => times_any vy ys q x hx hyl (by omega) hq
  rw [hDv] at HT
  obtain ⟨Q, hQ⟩ : ∃ Q, val W16 rs / D = Q := ⟨_, rfl⟩
  have hQ1 : Q < 65536 := by rw [← hQ]; exact Nat.div_lt_of_lt_mul hlt
  rw [hQ]
  have hQmax : ∀ q, q * D ≤ val W16 rs → q ≤ Q := fun q h => by rw [← hQ]; exact (Nat.le_div_iff_mul_le hD).2 h
  obtain ⟨a, cap, rfl, q1, r1⟩ := hy.shapeC hn
  obtain ⟨b, off, rfl, hbl, hcx⟩ := hy.cells (by rw [C_length]; omega)
  have hc1 := hcx n1 _ (C_get _ (by omega))
  have hf := hyl.getD (show 0 < W16 by decide) n1
  obtain ⟨f, hff⟩ : ∃ f, ys.getD n1 0 = f := ⟨_, rfl⟩
  obtain ⟨h, hhh⟩ : ∃ h, rs.getD n 0 = h := ⟨_, rfl⟩
  obtain ⟨g, hgg⟩ : ∃ g, rs.getD n1 0 = g := ⟨_, rfl⟩
  rw [hff] at hc1 hf hlast
  have hhb : h < 65536 := by rw [← hhh]; exact hrl.getD (by decide) _
  have hgb : g < 65536 := by rw [← hgg]; exact hrl.getD (by decide) _
  have hfb : f < 65536 := hf
  obtain ⟨h6, hh6⟩ : ∃ h6, h * 65536 = h6 := ⟨_, rfl⟩
  obtain ⟨t1, ht1⟩ : ∃ t1, h6 + g = t1 := ⟨_, rfl⟩
  have ht1b : t1 < 4294967296 := by omega
  have hd1 := HDig n (by omega) w.drew (hr.below ((Below.refl _ _).drew))
  have hd2 := HDig n1 (by omega) w.drew (hr.below ((Below.refl _ _).drew))
  rw [hhh] at hd1
  rw [hgg] at hd2
  have hn30 : n ≤ 300000 := by omega
  have hn1n : n1 < n := by omega
  have hcmp := fun es (hes : Lo W16 es) (hem : es.length ≤ 1000000) v x (hv : SlV x v (C .u64 es)) (hx : SlV x vr (C .u64 rs)) => compare_any v vr es rs x hv hx hes hrl hem (by omega)
  have en1 : (n : Int) - 1 = (n1 : Int) := by omega
  have HD1 := Away.mk hd1; have HD2 := Away.mk hd2; have HCM := Away.mk hcmp; have HTI := Away.mk HT; have HQ := Away.mk hQmax; have HQE := Away.mk hQ
  have HR := Away.mk hr; have HY := Away.mk hy; have HHH := Away.mk hhh; have HGG := Away.mk hgg; have HFF := Away.mk hff; have HH6 := Away.mk hh6; have HT1 := Away.mk ht1
  have HDL := Away.mk hDlt; have HRL := Away.mk hRlt; have HLa := Away.mk hlast; have HN1 := Away.mk hn1; have HLo := Away.mk hrl; have HLy := Away.mk hyl; have HDv := Away.mk hDv; have HCX := Away.mk hcx; have HNN := Away.mk hn
  have HDig' := Away.mk HDig; have HDP := Away.mk hD
  clear hd1 hd2 hcmp HT hQmax hQ hr hy hhh hgg hff hDlt hRlt hlast hn1 hrl hyl hDv hcx hn HDig hI hf hlt hh6 ht1 hD
  by_cases hn2 : n1 = 0
  · have d1 : decide (1 < (n : Int)) = false := decide_eq_false (by have := HN1.out; omega)
    have htop : val W16 rs / W16 ^ 0 = t1 := by
      have h := next_top2 (e := 0) HLo.out (by have := HRL.out; rw [HN1.out, hn2] at this; exact this)
      rw [h, ← HT1.out, ← HH6.out, ← HHH.out, ← HGG.out, HN1.out, hn2]
    have hby : D / W16 ^ 0 = f := by
      have h := getD_val (B := W16) (by decide) HLy.out 0
      have h2 := HFF.out
      rw [hn2, h, HDv.out, Nat.pow_zero, Nat.div_one] at h2
      have h3 := HDL.out
      rw [HN1.out, hn2] at h3
      rw [Nat.pow_zero, Nat.div_one, ← h2, Nat.mod_eq_of_lt (by simpa using h3)]
    have hge := next_ge (by decide) htop hby (by have := HLa.out; omega) HDP.out
    rw [HQE.out] at hge
    obtain ⟨tq, htq⟩ : ∃ tq, t1 / f = tq := ⟨_, rfl⟩
    have e6 : (t1 : Int) / (f : Int) = (tq : Int) := by rw [← htq]; simp
    rw [htq] at hge
    obtain ⟨q0, hmin, hq0⟩ : ∃ q0 : Nat, min (tq : Int) 65535 = (q0 : Int) ∧ (Q ≤ q0 ∧ q0 < 65536) := ⟨min tq 65535, by omega, by omega, by omega⟩
    have hf0 : (f : Int) ≠ 0 := by have := HLa.out; omega
    have hfn : f ≠ 0 := HLa.out
    have htqb : tq ≤ t1 := by rw [← htq]; exact Nat.div_le_self _ _
    have HBC : Away (Below w.heap.size w w.drew) := ⟨(Below.refl _ _).drew⟩
    have HN2 := Away.mk hn2
    clear htop hby hge htq hn2
    go_enter Tryd.func56, Tryd.ntmps56
    go_wp2_with fail
    refine wp_region_noPanic ?_
    refine wp_region_held_drew (S := fun w' => w'.cell? ⟨b, off + n1, none⟩ = some (.int .u64 (f : Int))) (by kernel_rfl) (hc1) (fun hHeld => ?_)
    refine wpAnyH_takeL (i := 0) (v := ?v0a) rfl (by kernel_rfl) (by kernel_rfl) (by kernel_rfl) (fun _ _ _ h => h) (by rfl) ?h0a (by assumption) ?_
    case h0a => intro w hSw; go_simp <;> with_reducible rfl
    simp only [Act.put, List.setIfInBounds_toArray, List.set_cons_zero, List.set_cons_succ]
    refine wpAnyH_takeL (i := 1) (v := ?v1a) rfl (by kernel_rfl) (by kernel_rfl) (by kernel_rfl) (fun _ _ _ h => h) (by rfl) ?h1a (by assumption) ?_
    case h1a => intro w hSw; go_simp <;> with_reducible rfl
    simp only [Act.put, List.setIfInBounds_toArray, List.set_cons_zero, List.set_cons_succ]
    refine wpAnyH_takeL (i := 4) (v := ?v4a) rfl (by kernel_rfl) (by kernel_rfl) (by kernel_rfl) (fun _ _ _ h => h) (by rfl) ?h4a (by assumption) ?_
    case h4a => intro w hSw; go_simp <;> with_reducible rfl
    simp only [Act.put, List.setIfInBounds_toArray, List.set_cons_zero, List.set_cons_succ]
    refine wpAnyH_takeL (i := 5) (v := ?v5a) rfl (by kernel_rfl) (by kernel_rfl) (by kernel_rfl) (fun _ _ _ h => h) (by rfl) ?h5a (by assumption) ?_
    case h5a => intro w hSw; go_simp <;> with_reducible rfl
    simp only [Act.put, List.setIfInBounds_toArray, List.set_cons_zero, List.set_cons_succ]
    refine wpAnyH_takeL (i := 6) (v := .int .i64 (n1 : Int)) rfl (by kernel_rfl) (by kernel_rfl) (by kernel_rfl) (fun _ _ _ h => h) (by rfl) ?h6a (by assumption) ?_
    case h6a => intro w hSw; go_simp; rw [IntKind.wrap_i64]; omega
    simp only [Act.put, List.setIfInBounds_toArray, List.set_cons_zero, List.set_cons_succ]
    refine wpAnyH_takeL (i := 9) (v := ?v9a) rfl (by kernel_rfl) (by kernel_rfl) (by kernel_rfl) (fun _ _ _ h => h) (by rfl) ?h9a (by assumption) ?_
    case h9a => intro w hSw; go_simp <;> with_reducible rfl
    simp only [Act.put, List.setIfInBounds_toArray, List.set_cons_zero, List.set_cons_succ]
    refine wpAnyH_takeL (i := 10) (v := ?v10a) rfl (by kernel_rfl) (by kernel_rfl) (by kernel_rfl) (fun _ _ _ h => h) (by rfl) ?h10a (by assumption) ?_
    case h10a => intro w hSw; go_simp <;> with_reducible rfl
    simp only [Act.put, List.setIfInBounds_toArray, List.set_cons_zero, List.set_cons_succ]
    refine wpAnyH_takeL (i := 11) (v := .int .i64 (n1 : Int)) rfl (by kernel_rfl) (by kernel_rfl) (by kernel_rfl) (fun _ _ _ h => h) (by rfl) ?h11a (by assumption) ?_
    case h11a => intro w hSw; go_simp; rw [IntKind.wrap_i64]; omega
    simp only [Act.put, List.setIfInBounds_toArray, List.set_cons_zero, List.set_cons_succ]
    refine wpAnyH_takeL (i := 12) (v := ?v12a) rfl (by kernel_rfl) (by kernel_rfl) (by kernel_rfl) (fun _ _ _ h => h) (by rfl) ?h12a (by assumption) ?_
    case h12a => intro w hSw; go_simp <;> with_reducible rfl
    simp only [Act.put, List.setIfInBounds_toArray, List.set_cons_zero, List.set_cons_succ]
    refine wpAnyH_takeL (i := 13) (v := ?v13a) rfl (by kernel_rfl) (by kernel_rfl) (by kernel_rfl) (fun _ _ _ h => h) (by rfl) ?h13a (by assumption) ?_
    case h13a => intro w hSw; go_simp <;> with_reducible rfl
    simp only [Act.put, List.setIfInBounds_toArray, List.set_cons_zero, List.set_cons_succ]
    refine allReadyH_oneL (i := 2) (by kernel_rfl) rfl (by rfl) (fun K hK => ?_)
    go_simp
    refine HD1.out.mono ?_
    rintro _ w' ⟨rfl, rfl⟩
    refine hK.out _ _ (hc1) (fun hHeld => ?_)
    clear hK K
    refine wpAnyH_takeL (i := 3) (v := .int .u64 (h6 : Int)) rfl (by kernel_rfl) (by kernel_rfl) (by kernel_rfl) (fun _ _ _ h => h) (by rfl) ?h3a (by assumption) ?_
    case h3a => intro w hSw; go_simp; rw [wrapU]; have := HH6.out; have := HT1.out; omega
    simp only [Act.put, List.setIfInBounds_toArray, List.set_cons_zero, List.set_cons_succ]
    refine allReadyH_oneL (i := 7) (by kernel_rfl) rfl (by rfl) (fun K hK => ?_)
    go_simp
    refine HD2.out.mono ?_
    rintro _ w' ⟨rfl, rfl⟩
    refine hK.out _ _ (hc1) (fun hHeld => ?_)
    clear hK K
    refine wpAnyH_takeL (i := 8) (v := .int .u64 (t1 : Int)) rfl (by kernel_rfl) (by kernel_rfl) (by kernel_rfl) (fun _ _ _ h => h) (by rfl) ?h8a (by assumption) ?_
    case h8a => intro w hSw; go_simp; rw [wrapU]; have := HH6.out; have := HT1.out; omega
    simp only [Act.put, List.setIfInBounds_toArray, List.set_cons_zero, List.set_cons_succ]
    refine wpAnyH_takeL (i := 14) (v := ?v14a) rfl (by kernel_rfl) (by kernel_rfl) (by kernel_rfl) (fun _ _ _ h => h) (by rfl) ?h14a (by assumption) ?_
    case h14a => intro w hSw; go_simp <;> with_reducible rfl
    simp only [Act.put, List.setIfInBounds_toArray, List.set_cons_zero, List.set_cons_succ]
    refine wpAnyH_takeL (i := 15) (v := ?v15a) rfl (by kernel_rfl) (by kernel_rfl) (by kernel_rfl) (fun _ _ _ h => h) (by rfl) ?h15a (by assumption) ?_
    case h15a => intro w hSw; go_simp <;> with_reducible rfl
    simp only [Act.put, List.setIfInBounds_toArray, List.set_cons_zero, List.set_cons_succ]
    refine wpAnyH_done (by kernel_rfl) ?_ _
    refine NoPanic.normal ?_
    go_wp2
    go_loopw [8] (fun qv wr => ∃ q : Nat, Q ≤ q ∧ q < 65536 ∧ qv = .int .u64 (q : Int) ∧ Below w.heap.size w wr) (fun q _ => (intOf q).toNat)
    case atStart => exact ⟨q0, hq0.1, hq0.2, rfl, HBC.out⟩
    case round =>
      obtain ⟨q, hq1, hq2, rfl, hb⟩ := hrel
      have HB := Away.mk hb
      clear hb
      go_wp2_with fail
      refine (HTI.out q hq2 _ (HY.out.below HB.out)).mono ?_
      rintro _ x1 ⟨v48, es, rfl, hIe, hel, hse, hb⟩
      have hb2 : Below w.heap.size w x1 := HB.out.trans (hb.mono HB.out.size)
      have HC2 := Away.mk (HCM.out es hIe.2.1 (by omega) v48 x1 hse (HR.out.below hb2))
      rw [hIe.1] at HC2
      replace HB := Away.mk hb2
      clear hb hb2 hIe hse hel
      go_wp2_with fail
      refine HC2.out.mono ?_
      rintro _ x2 ⟨rfl, rfl⟩
      by_cases hgt : val W16 rs < D * q
      · have hc : decide (0 < cmpI (D * q) (val W16 rs)) = true := decide_eq_true (cmpI_pos.2 hgt)
        have hQq : Q < q := by
          rw [← HQE.out]; exact Nat.div_lt_of_lt_mul hgt
        obtain ⟨q', hq'⟩ : ∃ q', q = q' + 1 := ⟨q - 1, by omega⟩
        have eq' : (q : Int) - 1 = (q' : Int) := by omega
        generalize cmpI (D * q) (val W16 rs) = cc at *
        clear hgt
        have HQ' := Away.mk hq'
        clear hq'
        go_wp2
        go_roundw
        case rel =>
          have := HQ'.out
          exact ⟨q', by omega, by omega, rfl, HB.out⟩
        case measure => have := HQ'.out; simp [intOf]; omega
      · have hc : decide (0 < cmpI (D * q) (val W16 rs)) = false := decide_eq_false (fun h => hgt (cmpI_pos.1 h))
        have hqQ : q = Q := Nat.le_antisymm (HQ.out q (by rw [Nat.mul_comm]; omega)) hq1
        generalize cmpI (D * q) (val W16 rs) = cc at *
        clear hgt
        go_wp2
        go_ret
        exact ⟨rfl, HB.out⟩
  · obtain ⟨n2, hn2'⟩ : ∃ n2, n1 = n2 + 1 := ⟨n1 - 1, by omega⟩
    have d1 : decide (1 < (n : Int)) = true := decide_eq_true (by have := HN1.out; omega)
    have en2 : (n : Int) - 2 = (n2 : Int) := by omega
    have hn2n : n2 < n := by omega
    have hc2 := HCX.out n2 _ (C_get _ (by have := HNN.out; omega))
    obtain ⟨s, hss⟩ : ∃ s, ys.getD n2 0 = s := ⟨_, rfl⟩
    obtain ⟨l, hll⟩ : ∃ l, rs.getD n2 0 = l := ⟨_, rfl⟩
    rw [hss] at hc2
    have hsb : s < 65536 := by rw [← hss]; exact HLy.out.getD (by decide) _
    have hlb : l < 65536 := by rw [← hll]; exact HLo.out.getD (by decide) _
    obtain ⟨t2, ht2⟩ : ∃ t2, t1 * 65536 = t2 := ⟨_, rfl⟩
    obtain ⟨t3, ht3⟩ : ∃ t3, t2 + l = t3 := ⟨_, rfl⟩
    obtain ⟨f2, hf2⟩ : ∃ f2, f * 65536 = f2 := ⟨_, rfl⟩
    obtain ⟨f3, hf3⟩ : ∃ f3, f2 + s = f3 := ⟨_, rfl⟩
    have et2 : (t1 : Int) * 65536 = (t2 : Int) := by omega
    have et3 : (t2 : Int) + (l : Int) = (t3 : Int) := by omega
    have ef2 : (f : Int) * 65536 = (f2 : Int) := by omega
    have ef3 : (f2 : Int) + (s : Int) = (f3 : Int) := by omega
    have ht2b : t2 < 281474976710656 := by omega
    have ht3b : t3 < 281474976710656 := by omega
    have hf2b : f2 < 4294967296 := by omega
    have hf3b : f3 < 4294967296 := by omega
    have htop : val W16 rs / W16 ^ n2 = t3 := by
      have h := next_top3 (e := n2) HLo.out (by have := HRL.out; rw [HN1.out, hn2'] at this; exact this)
      have e1 := HHH.out; have e2 := HGG.out
      rw [HN1.out, hn2'] at e1
      rw [hn2'] at e2
      rw [h, e1, e2, hll, ← ht3, ← ht2, ← HT1.out, ← HH6.out]
    have hby : D / W16 ^ n2 = f3 := by
      have h := next_top2 (e := n2) HLy.out (by have := HDL.out; rw [HN1.out, hn2'] at this; rw [HDv.out]; exact this)
      have e1 := HFF.out
      rw [hn2'] at e1
      rw [HDv.out] at h
      rw [h, e1, hss, ← hf3, ← hf2]
    have hge := next_ge (Nat.pow_pos (by decide)) htop hby (by have := HLa.out; omega) HDP.out
    rw [HQE.out] at hge
    obtain ⟨tq, htq⟩ : ∃ tq, t3 / f3 = tq := ⟨_, rfl⟩
    have e6 : (t3 : Int) / (f3 : Int) = (tq : Int) := by rw [← htq]; simp
    rw [htq] at hge
    obtain ⟨q0, hmin, hq0⟩ : ∃ q0 : Nat, min (tq : Int) 65535 = (q0 : Int) ∧ (Q ≤ q0 ∧ q0 < 65536) := ⟨min tq 65535, by omega, by omega, by omega⟩
    have hfn : f3 ≠ 0 := by have := HLa.out; omega
    have hf0 : (f3 : Int) ≠ 0 := by omega
    have htqb : tq ≤ t3 := by rw [← htq]; exact Nat.div_le_self _ _
    have HBC : Away (Below w.heap.size w w.drew) := ⟨(Below.refl _ _).drew⟩
    have hd3 := HDig'.out n2 (by omega) w.drew (HR.out.below ((Below.refl _ _).drew))
    rw [hll] at hd3
    have HD3 := Away.mk hd3
    clear htop hby hge htq hd3 ht2 ht3 hf2 hf3 hss hll hn2'
    go_enter Tryd.func56, Tryd.ntmps56
    go_wp2_with fail
    refine wp_region_noPanic ?_
    refine wp_region_held_drew (S := fun w' => w'.cell? ⟨b, off + n1, none⟩ = some (.int .u64 (f : Int))) (by kernel_rfl) (hc1) (fun hHeld => ?_)
    refine wpAnyH_takeL (i := 0) (v := ?v0b) rfl (by kernel_rfl) (by kernel_rfl) (by kernel_rfl) (fun _ _ _ h => h) (by rfl) ?h0b (by assumption) ?_
    case h0b => intro w hSw; go_simp <;> with_reducible rfl
    simp only [Act.put, List.setIfInBounds_toArray, List.set_cons_zero, List.set_cons_succ]
    refine wpAnyH_takeL (i := 1) (v := ?v1b) rfl (by kernel_rfl) (by kernel_rfl) (by kernel_rfl) (fun _ _ _ h => h) (by rfl) ?h1b (by assumption) ?_
    case h1b => intro w hSw; go_simp <;> with_reducible rfl
    simp only [Act.put, List.setIfInBounds_toArray, List.set_cons_zero, List.set_cons_succ]
    refine wpAnyH_takeL (i := 4) (v := ?v4b) rfl (by kernel_rfl) (by kernel_rfl) (by kernel_rfl) (fun _ _ _ h => h) (by rfl) ?h4b (by assumption) ?_
    case h4b => intro w hSw; go_simp <;> with_reducible rfl
    simp only [Act.put, List.setIfInBounds_toArray, List.set_cons_zero, List.set_cons_succ]
    refine wpAnyH_takeL (i := 5) (v := ?v5b) rfl (by kernel_rfl) (by kernel_rfl) (by kernel_rfl) (fun _ _ _ h => h) (by rfl) ?h5b (by assumption) ?_
    case h5b => intro w hSw; go_simp <;> with_reducible rfl
    simp only [Act.put, List.setIfInBounds_toArray, List.set_cons_zero, List.set_cons_succ]
    refine wpAnyH_takeL (i := 6) (v := .int .i64 (n1 : Int)) rfl (by kernel_rfl) (by kernel_rfl) (by kernel_rfl) (fun _ _ _ h => h) (by rfl) ?h6b (by assumption) ?_
    case h6b => intro w hSw; go_simp; rw [IntKind.wrap_i64]; omega
    simp only [Act.put, List.setIfInBounds_toArray, List.set_cons_zero, List.set_cons_succ]
    refine wpAnyH_takeL (i := 9) (v := ?v9b) rfl (by kernel_rfl) (by kernel_rfl) (by kernel_rfl) (fun _ _ _ h => h) (by rfl) ?h9b (by assumption) ?_
    case h9b => intro w hSw; go_simp <;> with_reducible rfl
    simp only [Act.put, List.setIfInBounds_toArray, List.set_cons_zero, List.set_cons_succ]
    refine wpAnyH_takeL (i := 10) (v := ?v10b) rfl (by kernel_rfl) (by kernel_rfl) (by kernel_rfl) (fun _ _ _ h => h) (by rfl) ?h10b (by assumption) ?_
    case h10b => intro w hSw; go_simp <;> with_reducible rfl
    simp only [Act.put, List.setIfInBounds_toArray, List.set_cons_zero, List.set_cons_succ]
    refine wpAnyH_takeL (i := 11) (v := .int .i64 (n1 : Int)) rfl (by kernel_rfl) (by kernel_rfl) (by kernel_rfl) (fun _ _ _ h => h) (by rfl) ?h11b (by assumption) ?_
    case h11b => intro w hSw; go_simp; rw [IntKind.wrap_i64]; omega
    simp only [Act.put, List.setIfInBounds_toArray, List.set_cons_zero, List.set_cons_succ]
    refine wpAnyH_takeL (i := 12) (v := ?v12b) rfl (by kernel_rfl) (by kernel_rfl) (by kernel_rfl) (fun _ _ _ h => h) (by rfl) ?h12b (by assumption) ?_
    case h12b => intro w hSw; go_simp <;> with_reducible rfl
    simp only [Act.put, List.setIfInBounds_toArray, List.set_cons_zero, List.set_cons_succ]
    refine wpAnyH_takeL (i := 13) (v := ?v13b) rfl (by kernel_rfl) (by kernel_rfl) (by kernel_rfl) (fun _ _ _ h => h) (by rfl) ?h13b (by assumption) ?_
    case h13b => intro w hSw; go_simp <;> with_reducible rfl
    simp only [Act.put, List.setIfInBounds_toArray, List.set_cons_zero, List.set_cons_succ]
    refine allReadyH_oneL (i := 2) (by kernel_rfl) rfl (by rfl) (fun K hK => ?_)
    go_simp
    refine HD1.out.mono ?_
    rintro _ w' ⟨rfl, rfl⟩
    refine hK.out _ _ (hc1) (fun hHeld => ?_)
    clear hK K
    refine wpAnyH_takeL (i := 3) (v := .int .u64 (h6 : Int)) rfl (by kernel_rfl) (by kernel_rfl) (by kernel_rfl) (fun _ _ _ h => h) (by rfl) ?h3b (by assumption) ?_
    case h3b => intro w hSw; go_simp; rw [wrapU]; have := HH6.out; have := HT1.out; omega
    simp only [Act.put, List.setIfInBounds_toArray, List.set_cons_zero, List.set_cons_succ]
    refine allReadyH_oneL (i := 7) (by kernel_rfl) rfl (by rfl) (fun K hK => ?_)
    go_simp
    refine HD2.out.mono ?_
    rintro _ w' ⟨rfl, rfl⟩
    refine hK.out _ _ (hc1) (fun hHeld => ?_)
    clear hK K
    refine wpAnyH_takeL (i := 8) (v := .int .u64 (t1 : Int)) rfl (by kernel_rfl) (by kernel_rfl) (by kernel_rfl) (fun _ _ _ h => h) (by rfl) ?h8b (by assumption) ?_
    case h8b => intro w hSw; go_simp; rw [wrapU]; have := HH6.out; have := HT1.out; omega
    simp only [Act.put, List.setIfInBounds_toArray, List.set_cons_zero, List.set_cons_succ]
    refine wpAnyH_takeL (i := 14) (v := ?v14b) rfl (by kernel_rfl) (by kernel_rfl) (by kernel_rfl) (fun _ _ _ h => h) (by rfl) ?h14b (by assumption) ?_
    case h14b => intro w hSw; go_simp <;> with_reducible rfl
    simp only [Act.put, List.setIfInBounds_toArray, List.set_cons_zero, List.set_cons_succ]
    refine wpAnyH_takeL (i := 15) (v := ?v15b) rfl (by kernel_rfl) (by kernel_rfl) (by kernel_rfl) (fun _ _ _ h => h) (by rfl) ?h15b (by assumption) ?_
    case h15b => intro w hSw; go_simp <;> with_reducible rfl
    simp only [Act.put, List.setIfInBounds_toArray, List.set_cons_zero, List.set_cons_succ]
    refine wpAnyH_done (by kernel_rfl) ?_ _
    refine NoPanic.normal ?_
    go_wp2_with fail
    refine HD3.out.mono ?_
    rintro _ w' ⟨rfl, rfl⟩
    go_wp2
    go_loopw [8] (fun qv wr => ∃ q : Nat, Q ≤ q ∧ q < 65536 ∧ qv = .int .u64 (q : Int) ∧ Below w.heap.size w wr) (fun q _ => (intOf q).toNat)
    case atStart => exact ⟨q0, hq0.1, hq0.2, rfl, HBC.out⟩
    case round =>
      obtain ⟨q, hq1, hq2, rfl, hb⟩ := hrel
      have HB := Away.mk hb
      clear hb
      go_wp2_with fail
      refine (HTI.out q hq2 _ (HY.out.below HB.out)).mono ?_
      rintro _ x1 ⟨v48, es, rfl, hIe, hel, hse, hb⟩
      have hb2 : Below w.heap.size w x1 := HB.out.trans (hb.mono HB.out.size)
      have HC2 := Away.mk (HCM.out es hIe.2.1 (by omega) v48 x1 hse (HR.out.below hb2))
      rw [hIe.1] at HC2
      replace HB := Away.mk hb2
      clear hb hb2 hIe hse hel
      go_wp2_with fail
      refine HC2.out.mono ?_
      rintro _ x2 ⟨rfl, rfl⟩
      by_cases hgt : val W16 rs < D * q
      · have hc : decide (0 < cmpI (D * q) (val W16 rs)) = true := decide_eq_true (cmpI_pos.2 hgt)
        have hQq : Q < q := by
          rw [← HQE.out]; exact Nat.div_lt_of_lt_mul hgt
        obtain ⟨q', hq'⟩ : ∃ q', q = q' + 1 := ⟨q - 1, by omega⟩
        have eq' : (q : Int) - 1 = (q' : Int) := by omega
        generalize cmpI (D * q) (val W16 rs) = cc at *
        clear hgt
        have HQ' := Away.mk hq'
        clear hq'
        go_wp2
        go_roundw
        case rel =>
          have := HQ'.out
          exact ⟨q', by omega, by omega, rfl, HB.out⟩
        case measure => have := HQ'.out; simp [intOf]; omega
      · have hc : decide (0 < cmpI (D * q) (val W16 rs)) = false := decide_eq_false (fun h => hgt (cmpI_pos.1 h))
        have hqQ : q = Q := Nat.le_antisymm (HQ.out q (by rw [Nat.mul_comm]; omega)) hq1
        generalize cmpI (D * q) (val W16 rs) = cc at *
        clear hgt
        go_wp2
        go_ret
        exact ⟨rfl, HB.out⟩
end Go.Proofs.YtdpahahfcdldcaaDoor
