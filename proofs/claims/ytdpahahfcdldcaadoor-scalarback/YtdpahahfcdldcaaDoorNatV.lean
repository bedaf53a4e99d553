/-
  Contracts of guess and takeMost, over this seat's translation. Conditions: at most 100000 words; the divisor has two words or more, the highest not 0.
-/
import Derived.Test.YtdpahahfcdldcaaDoorNatL
import Derived.Test.YtdpahahfcdldcaaDoorNatM5
namespace Go.Proofs.YtdpahahfcdldcaaDoor
open Go.RowKit
set_option linter.unusedVariables false

theorem less_left {R F M : Nat} (h1 : R < 4294967296) (h2 : 0 < F) (h3 : 8589934592 ≤ M) : M - (intOf (.int .u64 ((R : Int) + (F : Int)))).toNat < M - (intOf (.int .u64 (R : Int))).toNat := by
  simp only [intOf]; omega
set_option maxHeartbeats 2000000 in
theorem guess_any (vl vb : Value) (ls bs : List Nat) (n : Nat) (w : World) (hl : SlV w vl (C .u32 ls)) (hb : SlV w vb (C .u32 bs)) (hln : ls.length = n + 1) (hbn : bs.length = n) (hn2 : 2 ≤ n) (hnm : n ≤ 100000) (hllo : Lo W32 ls) (hblo : Lo W32 bs) (hF : bs.getD (n - 1) 0 ≠ 0) :
    Calls Tryd.prog 72 #[vl, vb] w fun e w' => ∃ q : Nat, e = .returned (.int .u32 (q : Int)) ∧ q < 4294967296 ∧ (val W32 ls < val W32 bs * W32 → q = val W32 ls / val W32 bs ∨ q = val W32 ls / val W32 bs + 1) ∧ w'.heap = w.heap ∧ Below w.heap.size w w' := by
  obtain ⟨al, cl, rfl, q1, r1⟩ := hl.shapeC hln
  obtain ⟨ab, cb, rfl, q2, r2⟩ := hb.shapeC hbn
  obtain ⟨gl, ol, rfl, _, hcl⟩ := hl.cells (by rw [C_length]; omega)
  obtain ⟨gb, ob, rfl, _, hcb⟩ := hb.cells (by rw [C_length]; omega)
  have k1 := hcb (n - 1) _ (C_get _ (by omega))
  have k2 := hcb (n - 2) _ (C_get _ (by omega))
  have k3 := hcl n _ (C_get _ (by omega))
  have k4 := hcl (n - 1) _ (C_get _ (by omega))
  have k5 := hcl (n - 2) _ (C_get _ (by omega))
  have u1 : bs.getD (n - 1) 0 < 4294967296 := hblo.getD (by decide) _
  have u2 : bs.getD (n - 2) 0 < 4294967296 := hblo.getD (by decide) _
  have u3 : ls.getD n 0 < 4294967296 := hllo.getD (by decide) _
  have u4 : ls.getD (n - 1) 0 < 4294967296 := hllo.getD (by decide) _
  have u5 : ls.getD (n - 2) 0 < 4294967296 := hllo.getD (by decide) _
  obtain ⟨sb, hsb, htb⟩ := top_two (B := W32) (by decide) hbn hn2 hblo
  obtain ⟨sl, hsl, htl⟩ := top_three (B := W32) (by decide) hln hn2 hllo
  have HB := Away.mk htb; have HL := Away.mk htl; have HSB := Away.mk hsb; have HSL := Away.mk hsl
  clear hcl hcb hl hb htb htl hsb hsl
  generalize bs.getD (n - 1) 0 = F at *
  generalize bs.getD (n - 2) 0 = S at *
  generalize ls.getD n 0 = x at *
  generalize ls.getD (n - 1) 0 = y at *
  generalize ls.getD (n - 2) 0 = z at *
  have e1 : (n : Int) - 1 = ((n - 1 : Nat) : Int) := by omega
  have e2 : (n : Int) - 2 = ((n - 2 : Nat) : Int) := by omega
  obtain ⟨n1, hn1⟩ : ∃ n1, n - 1 = n1 := ⟨_, rfl⟩
  obtain ⟨n2, hn2'⟩ : ∃ n2, n - 2 = n2 := ⟨_, rfl⟩
  have b1 : n1 < n := by omega
  have b2 : n2 < n := by omega
  rw [hn1] at e1 k1 k4
  rw [hn2'] at e2 k2 k5 HB HL HSB HSL
  have HN2 := Away.mk hn2'
  clear hn1 hn2'
  have hor := or64 x y u3 u4
  have htop : x * 4294967296 + y < 18446744073709551616 := by omega
  obtain ⟨top, ht⟩ : ∃ top, x * 4294967296 + y = top := ⟨_, rfl⟩
  have HT := Away.mk ht
  rw [ht] at hor htop
  clear ht
  go_enter Tryd.func72, Tryd.ntmps72
  have hF0 : (F : Int) ≠ 0 := by omega
  have hFz : F ≠ 0 := by omega
  go_wp2
  go_region
  go_wp2
  go_region
  go_wp2
  go_region
  go_wp2
  have eq0 : IntKind.u64.wrap ((top : Int) / (F : Int)) = ((top / F : Nat) : Int) := by
    have : top / F ≤ top := Nat.div_le_self _ _
    rw [wrapU, ← Int.natCast_ediv]
    clear hor
    generalize top / F = d at *
    omega
  have er0 : (top : Int) % (F : Int) = ((top % F : Nat) : Int) := by simp
  rw [eq0, er0]
  clear eq0 er0
  have hFp : 0 < F := by omega
  obtain ⟨M, hM⟩ : ∃ M : Nat, 8589934592 ≤ M := ⟨_, Nat.le_refl _⟩
  go_loop [9, 10] (fun qv rv => ∃ Q R : Nat, qv = .int .u64 (Q : Int) ∧ rv = .int .u64 (R : Int) ∧ Q * F + R = top ∧ R < 4294967296 + F ∧ (∀ u, u < 4294967296 → u * (F * 4294967296 + S) ≤ top * 4294967296 + z → u ≤ Q)) (fun _ rv => M - (intOf rv).toNat)
  case atStart =>
    refine ⟨top / F, top % F, rfl, rfl, ?_, ?_, fun u hu h => guess_start hFp u5 h⟩
    · rw [Nat.mul_comm]; exact Nat.div_add_mod _ _
    · have := Nat.mod_lt top hFp; omega
  case round =>
    obtain ⟨Q, R, rfl, rfl, hQR, hR, hmax⟩ := hrel
    have hQtop : Q ≤ top := by
      have : Q * 1 ≤ Q * F := Nat.mul_le_mul_left _ hFp
      omega
    have HQR := Away.mk hQR; have HMX := Away.mk hmax
    clear hQR hmax hor
    by_cases hRb : R < 4294967296
    · have dR : decide ((R : Int) < 4294967296) = true := decide_eq_true (by omega)
      by_cases hQb : 4294967296 ≤ Q
      · have dQ : decide ((4294967296 : Int) ≤ (Q : Int)) = true := decide_eq_true (by omega)
        go_wp2
        go_round
        case rel =>
          have h1 := HQR.out
          refine ⟨Q - 1, R + F, by rw [show ((Q - 1 : Nat) : Int) = (Q : Int) - 1 by omega], by rw [Int.natCast_add], ?_, by omega, fun u hu h => guess_less h1 HMX.out (.inl hQb) hu h⟩
          rw [Nat.sub_mul, Nat.one_mul]
          have : 1 * F ≤ Q * F := Nat.mul_le_mul_right _ (by omega)
          omega
        case measure => exact less_left hRb hFp hM
      · have dQ : decide ((4294967296 : Int) ≤ (Q : Int)) = false := decide_eq_false (by omega)
        have hpb := mul_bound (show Q < 4294967296 by omega) u2
        have hpe : (Q : Int) * (S : Int) = ((Q * S : Nat) : Int) := by simp
        have hor := or64 R z hRb u5
        obtain ⟨p, hp⟩ : ∃ p, Q * S = p := ⟨_, rfl⟩
        obtain ⟨v, hv⟩ : ∃ v, R * 4294967296 + z = v := ⟨_, rfl⟩
        rw [hp] at hpb hpe
        rw [hv] at hor
        have hvb : v < 18446744073709551616 := by omega
        have HP := Away.mk hp; have HVV := Away.mk hv
        clear hp hv
        by_cases hlt : v < p
        · have dP : decide (v < p) = true := decide_eq_true hlt
          have hQ1 : 1 ≤ Q := by
            rcases Nat.eq_zero_or_pos Q with h | h
            · have := HP.out; rw [h, Nat.zero_mul] at this; omega
            · exact h
          go_wp2
          go_round
          case rel =>
            have h1 := HQR.out
            refine ⟨Q - 1, R + F, by rw [show ((Q - 1 : Nat) : Int) = (Q : Int) - 1 by omega], by rw [Int.natCast_add], ?_, by omega, fun u hu h => guess_less h1 HMX.out (.inr (by rw [HP.out, HVV.out]; exact hlt)) hu h⟩
            rw [Nat.sub_mul, Nat.one_mul]
            have : 1 * F ≤ Q * F := Nat.mul_le_mul_right _ hQ1
            omega
          case measure => exact less_left hRb hFp hM
        · have dP : decide (v < p) = false := decide_eq_false hlt
          have hfin : Q * (F * 4294967296 + S) ≤ top * 4294967296 + z := guess_end2 HQR.out (by rw [HP.out, HVV.out]; omega)
          have HFI := Away.mk hfin
          clear hfin
          go_wp2
          go_ret
          refine ⟨Q, ret_int (by omega), by omega, fun hc => ?_, rfl, ⟨rfl, rfl, rfl, Nat.le_refl _, fun _ _ => rfl⟩⟩
          refine guess_math (B := W32) (Nat.pow_pos (by decide)) HL.out HSL.out HB.out HSB.out (by show Q < 4294967296; omega) ?_ (by rw [HT.out]; exact HFI.out) (by rw [HT.out]; exact HMX.out) hc
          rw [HB.out]
          exact guess_ge hFp
    · have dR : decide ((R : Int) < 4294967296) = false := decide_eq_false (by omega)
      go_wp2
      go_ret
      by_cases hQb : Q < 4294967296
      · refine ⟨Q, ret_int (by omega), hQb, fun hc => ?_, rfl, ⟨rfl, rfl, rfl, Nat.le_refl _, fun _ _ => rfl⟩⟩
        refine guess_math (B := W32) (Nat.pow_pos (by decide)) HL.out HSL.out HB.out HSB.out hQb ?_ ?_ (by rw [HT.out]; exact HMX.out) hc
        · rw [HB.out]; exact guess_ge hFp
        · rw [HT.out]; exact guess_end1 HQR.out (by show 4294967296 ≤ R; omega) hQb u2
      · refine ⟨Q % 4294967296, ret_int (by simp), Nat.mod_lt _ (by decide), fun hc => ?_, rfl, ⟨rfl, rfl, rfl, Nat.le_refl _, fun _ _ => rfl⟩⟩
        exfalso
        rw [HL.out, HB.out] at hc
        have h1 := guess_top (B := W32) (F := F) (S := S) (sb := sb) (sl := sl) (P := W32 ^ n2) (t3 := (x * W32 + y) * W32 + z) (top := x * W32 + y) (z := z) rfl u2 HSB.out hc
        have h2 := HQR.out
        have h3 : x * W32 + y = top := HT.out
        rw [h3] at h1
        have h4 : 4294967296 * F ≤ Q * F := Nat.mul_le_mul_right _ (by omega)
        have h5 : (F + 1) * W32 = 4294967296 * F + 4294967296 := by rw [Nat.add_mul, Nat.mul_comm F]; rfl
        omega

set_option maxHeartbeats 1000000 in
theorem takeMost_any (g off cap n : Nat) (vb : Value) (pre ls post bs : List Nat) (w : World) (hW : Wnd w g off pre ls post) (hln : ls.length = n + 1) (hbn : bs.length = n) (hn2 : 2 ≤ n) (hnm : n ≤ 100000) (hllo : Lo W32 ls) (hblo : Lo W32 bs) (hF : bs.getD (n - 1) 0 ≠ 0)
    (hcap : n + 1 ≤ cap) (hcm : cap ≤ maxLen) (hb : SlV w vb (C .u32 bs)) (hne : ∀ b, vb.ownBlock = some b → b ≠ g) :
    Calls Tryd.prog 67 #[.slice (some ⟨g, off, none⟩) (n + 1) cap, vb] w fun e w' => ∃ (q : Nat) (ls' : List Nat), e = .returned (.int .u32 (q : Int)) ∧ q < 4294967296 ∧ Wnd w' g off pre ls' post ∧ ls'.length = n + 1 ∧ Lo W32 ls' ∧ (val W32 ls < val W32 bs * W32 → q = val W32 ls / val W32 bs ∧ val W32 ls' = val W32 ls % val W32 bs) ∧ w.grownBy w' (some g) := by
  have hD0 : 0 < val W32 bs := by
    rw [val_split bs (n - 1)]
    have h1 : 0 < W32 ^ (n - 1) := Nat.pow_pos (by decide)
    have h2 : 0 < bs.getD (n - 1) 0 + W32 * val W32 (bs.drop (n - 1 + 1)) := by omega
    have := Nat.mul_pos h1 h2
    omega
  have hsl : SlV w (.slice (some ⟨g, off, none⟩) (n + 1) cap) (C .u32 ls) := by
    have := hW.1.sl off (n + 1) cap (by rw [C_length, List.length_append, List.length_append, hW.2, hln]; omega) hcap hcm
    rw [← C_drop, ← C_take, ← hW.2, List.drop_left, List.take_left' hln, hW.2] at this
    exact this
  have hVP : val W32 ls < W32 ^ (n + 1) := by have := val_lt (B := W32) (by decide) hllo; rwa [hln] at this
  have HG := Away.mk (guess_any _ vb ls bs n w hsl hb hln hbn hn2 hnm hllo hblo hF)
  have HW := Away.mk hW; have HB := Away.mk hb; have HD := Away.mk hD0; have HVP := Away.mk hVP; have HNE := Away.mk hne
  obtain ⟨ab, cb, rfl, q2, r2⟩ := hb.shapeC hbn
  clear hsl hW hb hD0 hVP hne
  go_enter Tryd.func67, Tryd.ntmps67
  go_wp2_with fail
  refine HG.out.mono ?_
  rintro _ w1 ⟨q, rfl, hq, hqc, hh, hb1⟩
  have hW1 : Wnd w1 g off pre ls post := ⟨by have := HW.out.1; unfold Row at *; rw [hh]; exact this, HW.out.2⟩
  have hs1 := HB.out.below hb1
  have HT := Away.mk (takeTimes_any g off (n + 1) cap q _ pre ls post bs w1 hW1 hln hllo (by omega) hcap hcm hs1 hblo (by omega) (fun _ => HNE.out) hq)
  have HQC := Away.mk hqc; have HH := Away.mk (grown_of_below hb1 (some g)); have HB1 := Away.mk hb1
  clear hW1 hs1 hqc hh hb1 HG
  go_wp2_with fail
  refine HT.out.mono ?_
  rintro _ w2 ⟨ls1, c, rfl, hW2, hl2, hlo2, hv2, hg2⟩
  have hV1 : val W32 ls1 < W32 ^ (n + 1) := by have := val_lt (B := W32) (by decide) hlo2; rwa [hl2] at this
  have HV2 := Away.mk hv2; have HW2 := Away.mk hW2; have HV1 := Away.mk hV1; have HG2 := Away.mk (grown_tr HH.out hg2)
  have hs2 := (HB.out.below HB1.out).grown hg2 (fun b e h => HNE.out b e (by cases h; rfl))
  have HS2 := Away.mk hs2
  clear hW2 hv2 hg2 hV1 HT hs2
  by_cases hc : 0 < c
  · have d0 : decide (0 < c) = true := decide_eq_true hc
    have hq1 : 1 ≤ q := by
      rcases Nat.eq_zero_or_pos q with h | h
      · have h1 := HV2.out
        rw [h, Nat.zero_mul, Nat.add_zero] at h1
        have h2 := HV1.out
        have h3 : W32 ^ (n + 1) * 1 ≤ W32 ^ (n + 1) * c := Nat.mul_le_mul_left _ hc
        omega
      · exact h
    have HA := Away.mk (addTimes_any g off (n + 1) cap 1 _ pre ls1 post bs w2 HW2.out hl2 hlo2 (by omega) hcap hcm HS2.out hblo (by omega) (fun _ => HNE.out) (by decide))
    go_wp2_with fail
    refine HA.out.mono ?_
    rintro _ w3 ⟨ls2, c2, ⟨u, rfl⟩, hW3, hl3, hlo3, hv3, hg3⟩
    have HV3 := Away.mk hv3; have HW3 := Away.mk hW3; have HG3 := Away.mk (grown_tr HG2.out hg3)
    have hVV : val W32 ls2 < W32 ^ (n + 1) := by have := val_lt (B := W32) (by decide) hlo3; rwa [hl3] at this
    have HVV := Away.mk hVV
    clear hW3 hv3 hg3 HA hVV
    go_wp2
    go_ret
    refine ⟨q - 1, ls2, ret_int (by omega), by omega, HW3.out, hl3, hlo3, fun hcond => ?_, HG3.out⟩
    rcases HQC.out hcond with h | h
    · have := (took_all h HD.out HV2.out HV1.out).1
      omega
    · have h3 := HV3.out
      rw [Nat.one_mul] at h3
      have := put_back h HD.out HV2.out HV1.out h3 HVV.out HVP.out
      exact ⟨by omega, this.2⟩
  · have d0 : decide (0 < c) = false := decide_eq_false hc
    go_wp2
    go_ret
    refine ⟨q, ls1, rfl, hq, HW2.out, hl2, hlo2, fun hcond => ?_, HG2.out⟩
    rcases HQC.out hcond with h | h
    · exact ⟨h, (took_all h HD.out HV2.out HV1.out).2⟩
    · exfalso
      have h1 := HV2.out
      obtain rfl : c = 0 := by omega
      rw [Nat.mul_zero, Nat.add_zero, h, Nat.add_mul, Nat.one_mul] at h1
      have h2 := Nat.div_add_mod (val W32 ls) (val W32 bs)
      have h3 := Nat.mod_lt (val W32 ls) HD.out
      rw [Nat.mul_comm] at h2
      omega
end Go.Proofs.YtdpahahfcdldcaaDoor
