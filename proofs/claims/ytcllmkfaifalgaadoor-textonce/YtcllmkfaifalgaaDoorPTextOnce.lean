/-
  Proved: for every byte slice b the law TextOnce returns true, and b reads as before. No conditions of ours; the packages' variables start as their initialisers lay them, as the given card ties them.
-/
import Derived.Test.YtcllmkfaifalgaaDoorRows
import Derived.Test.YtcllmkfaifalgaaDoorCards
import Derived.Test.YtcllmkfaifalgaaDoorTie
import Derived.SevenTiedAt
import Derived.Test.YtcllmkfaifalgaaDoorTxW
import Derived.Test.YtcllmkfaifalgaaDoorTxO
import Derived.WalkKit
import Derived.ProofKit
import Derived.OpenShut
import Derived.ShutString
import Derived.ChangeOld
import Derived.Below
namespace Go.Proofs.YtcllmkfaifalgaaDoor.textOnce
open Go.ChangeShapes Go.WideShapes Go.ChangeAt Go.RowKit
open Go.ChangeMaps (open_string shut_string)
set_option linter.unusedVariables false

theorem own : ownKnob Tryd.prog.godebug = none := by kernel_rfl
theorem laidOut : laidOutB Tryd.prog = true := by kernel_rfl

open T in
set_option maxRecDepth 10000 in
set_option maxHeartbeats 4000000 in
/-- The walk: the law returns true and writes nothing that was there. -/
theorem walk (a0 : Option Addr) (len0 cap0 : Nat) (z0 : List Int) (w : World) (w0 : IsRow .u8 w a0 len0 cap0 z0) :
    Calls Tryd.prog 5 #[.slice a0 len0 cap0] w fun e w' => e = .returned (.bool true) ∧ Below w.heap.size w w' := by
  obtain ⟨xs, hs, hlen, hbx⟩ := isrow w0
  clear w0
  have hml := hs.len
  rw [U_length, hlen] at hml
  have hmx : (len0 : Int) ≤ 9223372036854775807 := by unfold maxLen at hml; omega
  by_cases hlong : 300 < len0
  · have hl' : (300 : Int) < (len0 : Int) := by omega
    go_enter Tryd.func5, Tryd.ntmps5
    go_wp2_with fail
    refine (alive_true _).mono ?_
    rintro e w' ⟨rfl, hb⟩
    go_wp2
    go_ret
    exact ⟨rfl, hb⟩
  have hl' : ¬ (300 : Int) < (len0 : Int) := by omega
  have hxl : xs.length ≤ 1000 := by omega
  have hx3 : xs.length ≤ 300 := by omega
  have q1 := canon_length xs
  have q2 := plain_length xs
  have q3 := signed_length xs
  go_enter Tryd.func5, Tryd.ntmps5
  go_wp2_with fail
  refine (canon_any _ xs w hs hbx hxl).mono ?_
  rintro e w1 ⟨vc, rfl, hoC, hL⟩
  have hC := SlV.ofOwn hoC
  replace hs := hs.below hL
  clear hoC
  go_wp2
  replace hC := hC.below (bel_drew (Below.refl _ _))
  replace hs := hs.below (bel_drew (Below.refl _ _))
  replace hL := bel_drew hL
  refine wp_region_below (by kernel_rfl) (fun hHeld => ?_)
  refine wpAnyH_takeL (i := 0) (v := ?v0a) rfl (by kernel_rfl) (by kernel_rfl) (by kernel_rfl) (fun _ _ _ h => h) (by rfl) ?h0a (by assumption) ?_
  case h0a => intro w' hSw; go_simp <;> with_reducible rfl
  simp only [Act.put, List.setIfInBounds_toArray, List.set_cons_zero, List.set_cons_succ]
  refine wpAnyH_takeL (i := 3) (v := ?v3a) rfl (by kernel_rfl) (by kernel_rfl) (by kernel_rfl) (fun _ _ _ h => h) (by rfl) ?h3a (by assumption) ?_
  case h3a => intro w' hSw; go_simp <;> with_reducible rfl
  simp only [Act.put, List.setIfInBounds_toArray, List.set_cons_zero, List.set_cons_succ]
  refine wpAnyH_takeL (i := 4) (v := .string (strOfNums (canon xs))) rfl (by kernel_rfl) (by kernel_rfl) (by kernel_rfl) (fun _ _ _ h => h) (by rfl) ?h4a (by assumption) ?_
  case h4a => intro w' hSw; have hk := run_str _ (hC.below hSw); go_simp
  simp only [Act.put, List.setIfInBounds_toArray, List.set_cons_zero, List.set_cons_succ]
  refine allReadyH_oneL (i := 1) (by kernel_rfl) rfl (by rfl) (fun K hK => ?_)
  go_simp
  refine (canon_any _ (canon xs) _ hC (canon_byt hbx) (by omega)).mono ?_
  rintro _ wn ⟨v1, rfl, ho, hb⟩
  replace hC := hC.below hb
  replace hs := hs.below hb
  have h1 := SlV.ofOwn ho
  rw [canon_canon] at h1
  replace hL := hL.trans (hb.mono hL.size)
  refine hK.out _ _ hb (fun _ => ?_)
  refine wpAnyH_later hb (fun hHeld => ?_)
  clear hK hb
  clear K
  refine wpAnyH_takeL (i := 2) (v := .string (strOfNums (canon xs))) rfl (by kernel_rfl) (by kernel_rfl) (by kernel_rfl) (fun _ _ _ h => h) (by rfl) ?h2a (by assumption) ?_
  case h2a => intro w' hSw; have hk := run_str _ (h1.below hSw); go_simp
  simp only [Act.put, List.setIfInBounds_toArray, List.set_cons_zero, List.set_cons_succ]
  refine wpAnyH_takeL (i := 5) (v := .bool false) rfl (by kernel_rfl) (by kernel_rfl) (by kernel_rfl) (fun _ _ _ h => h) (by rfl) ?h5a (by assumption) ?_
  case h5a => intro w' hSw; go_simp
  simp only [Act.put, List.setIfInBounds_toArray, List.set_cons_zero, List.set_cons_succ]
  refine wpAnyH_done (by kernel_rfl) ?_ _
  refine NoPanic.normal ?_
  clear h1
  go_wp2_with fail
  refine (lines_any _ xs _ hs hbx hxl).mono ?_
  rintro e w2 ⟨vl, vs, rfl, hol, hls, hb⟩
  replace hs := hs.below hb
  replace hC := hC.below hb
  replace hL := hL.trans (hb.mono hL.size)
  have hS := SlV.ofOwn hol
  have hR := Lr.ofLs hls
  clear hol hls hb
  have hlb := lines_byt hbx
  have hlsh := lines_short xs
  have hcp := @canon_plain xs
  have hlf := lines_few xs
  generalize lines xs = ls at *
  obtain ⟨N, hN⟩ : ∃ N, ls.length = N := ⟨_, rfl⟩
  obtain ⟨al, cl, rfl, p1, p2⟩ := shp hS (hR.length.trans hN)
  go_wp2
  go_loopw [5] (fun i wr => ∃ k : Nat, k ≤ N ∧ i = .int .i64 k ∧ Away (∀ y ∈ ls.take k, y.getLast? ≠ some 13) ∧ Below w2.heap.size w2 wr) (fun i _ => N - (intOf i).toNat)
  case atStart => exact ⟨0, by omega, rfl, Away.mk (by simp), Below.refl _ _⟩
  case round =>
    obtain ⟨k, hk, rfl, hA, hB⟩ := hrel
    replace hL := hL.trans (hB.mono hL.size)
    replace hs := hs.below hB
    replace hC := hC.below hB
    replace hS := hS.below hB
    replace hR := hR.below hB
    by_cases hkl : k = N
    · subst hkl
      have HP := Away.mk (hcp (by have := hA.out; rwa [List.take_of_length_le (by omega)] at this))
      clear hA hcp
      go_wp2_with fail
      refine (signed_any _ xs _ hs hbx hxl).mono ?_
      rintro e w3 ⟨vg, rfl, hog, hb⟩
      have hG := SlV.ofOwn hog
      replace hs := hs.below hb
      replace hC := hC.below hb
      replace hL := hL.trans (hb.mono hL.size)
      clear hog hb
      go_wp2
      replace hC := hC.below (bel_drew (Below.refl _ _))
      replace hs := hs.below (bel_drew (Below.refl _ _))
      replace hG := hG.below (bel_drew (Below.refl _ _))
      replace hL := bel_drew hL
      refine wp_region_below (by kernel_rfl) (fun hHeld => ?_)
      refine allReadyH_oneL (i := 0) (by kernel_rfl) rfl (by rfl) (fun K hK => ?_)
      go_simp
      refine (alive_true _).mono ?_
      rintro _ wn ⟨rfl, hb⟩
      replace hC := hC.below hb
      replace hs := hs.below hb
      replace hG := hG.below hb
      replace hL := hL.trans (hb.mono hL.size)
      refine hK.out _ _ hb (fun _ => ?_)
      refine wpAnyH_later hb (fun hHeld => ?_)
      clear hK hb
      clear K
      refine wpAnyH_takeL (i := 1) (v := ?v1b) rfl (by kernel_rfl) (by kernel_rfl) (by kernel_rfl) (fun _ _ _ h => h) (by rfl) ?h1b (by assumption) ?_
      case h1b => intro w' hSw; go_simp <;> with_reducible rfl
      simp only [Act.put, List.setIfInBounds_toArray, List.set_cons_zero, List.set_cons_succ]
      refine wpAnyH_takeL (i := 2) (v := ?v2b) rfl (by kernel_rfl) (by kernel_rfl) (by kernel_rfl) (fun _ _ _ h => h) (by rfl) ?h2b (by assumption) ?_
      case h2b => intro w' hSw; go_simp <;> with_reducible rfl
      simp only [Act.put, List.setIfInBounds_toArray, List.set_cons_zero, List.set_cons_succ]
      refine wpAnyH_takeL (i := 6) (v := ?v6b) rfl (by kernel_rfl) (by kernel_rfl) (by kernel_rfl) (fun _ _ _ h => h) (by rfl) ?h6b (by assumption) ?_
      case h6b => intro w' hSw; go_simp <;> with_reducible rfl
      simp only [Act.put, List.setIfInBounds_toArray, List.set_cons_zero, List.set_cons_succ]
      refine wpAnyH_takeL (i := 7) (v := .string (strOfNums (canon xs))) rfl (by kernel_rfl) (by kernel_rfl) (by kernel_rfl) (fun _ _ _ h => h) (by rfl) ?h7b (by assumption) ?_
      case h7b => intro w' hSw; have hk := run_str _ (hC.below hSw); go_simp
      simp only [Act.put, List.setIfInBounds_toArray, List.set_cons_zero, List.set_cons_succ]
      refine allReadyH_oneL (i := 3) (by kernel_rfl) rfl (by rfl) (fun K hK => ?_)
      go_simp
      refine (plain_any _ xs _ hs hbx hxl).mono ?_
      rintro _ wn ⟨v1, rfl, ho, hb⟩
      replace hC := hC.below hb
      replace hs := hs.below hb
      replace hG := hG.below hb
      have h1 := SlV.ofOwn ho
      replace hL := hL.trans (hb.mono hL.size)
      refine hK.out _ _ hb (fun _ => ?_)
      refine wpAnyH_later hb (fun hHeld => ?_)
      clear hK hb
      clear K
      refine allReadyH_oneL (i := 4) (by kernel_rfl) rfl (by rfl) (fun K hK => ?_)
      go_simp
      refine (canon_any _ (plain xs) _ h1 (plain_byt hbx) (by omega)).mono ?_
      rintro _ wn ⟨v2, rfl, ho, hb⟩
      replace hC := hC.below hb
      replace hs := hs.below hb
      replace hG := hG.below hb
      replace h1 := h1.below hb
      have h2 := SlV.ofOwn ho
      rw [HP.out] at h2
      replace hL := hL.trans (hb.mono hL.size)
      refine hK.out _ _ hb (fun _ => ?_)
      refine wpAnyH_later hb (fun hHeld => ?_)
      clear hK hb
      clear K
      refine wpAnyH_takeL (i := 5) (v := .string (strOfNums (canon xs))) rfl (by kernel_rfl) (by kernel_rfl) (by kernel_rfl) (fun _ _ _ h => h) (by rfl) ?h5b (by assumption) ?_
      case h5b => intro w' hSw; have hk := run_str _ (h2.below hSw); go_simp
      simp only [Act.put, List.setIfInBounds_toArray, List.set_cons_zero, List.set_cons_succ]
      refine wpAnyH_takeL (i := 8) (v := .bool true) rfl (by kernel_rfl) (by kernel_rfl) (by kernel_rfl) (fun _ _ _ h => h) (by rfl) ?h8b (by assumption) ?_
      case h8b => intro w' hSw; go_simp
      simp only [Act.put, List.setIfInBounds_toArray, List.set_cons_zero, List.set_cons_succ]
      refine wpAnyH_takeL (i := 9) (v := .bool true) rfl (by kernel_rfl) (by kernel_rfl) (by kernel_rfl) (fun _ _ _ h => h) (by rfl) ?h9b (by assumption) ?_
      case h9b => intro w' hSw; go_simp
      simp only [Act.put, List.setIfInBounds_toArray, List.set_cons_zero, List.set_cons_succ]
      refine wpAnyH_takeL (i := 10) (v := .bool true) rfl (by kernel_rfl) (by kernel_rfl) (by kernel_rfl) (fun _ _ _ h => h) (by rfl) ?h10b (by assumption) ?_
      case h10b => intro w' hSw; go_simp
      simp only [Act.put, List.setIfInBounds_toArray, List.set_cons_zero, List.set_cons_succ]
      refine wpAnyH_takeL (i := 11) (v := ?v11b) rfl (by kernel_rfl) (by kernel_rfl) (by kernel_rfl) (fun _ _ _ h => h) (by rfl) ?h11b (by assumption) ?_
      case h11b => intro w' hSw; go_simp <;> with_reducible rfl
      simp only [Act.put, List.setIfInBounds_toArray, List.set_cons_zero, List.set_cons_succ]
      refine wpAnyH_takeL (i := 14) (v := ?v14b) rfl (by kernel_rfl) (by kernel_rfl) (by kernel_rfl) (fun _ _ _ h => h) (by rfl) ?h14b (by assumption) ?_
      case h14b => intro w' hSw; go_simp <;> with_reducible rfl
      simp only [Act.put, List.setIfInBounds_toArray, List.set_cons_zero, List.set_cons_succ]
      refine wpAnyH_takeL (i := 15) (v := .string (strOfNums (signed xs))) rfl (by kernel_rfl) (by kernel_rfl) (by kernel_rfl) (fun _ _ _ h => h) (by rfl) ?h15b (by assumption) ?_
      case h15b => intro w' hSw; have hk := run_str _ (hG.below hSw); go_simp
      simp only [Act.put, List.setIfInBounds_toArray, List.set_cons_zero, List.set_cons_succ]
      refine allReadyH_oneL (i := 12) (by kernel_rfl) rfl (by rfl) (fun K hK => ?_)
      go_simp
      refine (signed_any _ (signed xs) _ hG (signed_byt hbx) (by omega)).mono ?_
      rintro _ wn ⟨v3, rfl, ho, hb⟩
      replace hC := hC.below hb
      replace hs := hs.below hb
      replace hG := hG.below hb
      replace h1 := h1.below hb
      replace h2 := h2.below hb
      have h3 := SlV.ofOwn ho
      rw [signed_signed] at h3
      replace hL := hL.trans (hb.mono hL.size)
      refine hK.out _ _ hb (fun _ => ?_)
      refine wpAnyH_later hb (fun hHeld => ?_)
      clear hK hb
      clear K
      refine wpAnyH_takeL (i := 13) (v := .string (strOfNums (signed xs))) rfl (by kernel_rfl) (by kernel_rfl) (by kernel_rfl) (fun _ _ _ h => h) (by rfl) ?h13b (by assumption) ?_
      case h13b => intro w' hSw; have hk := run_str _ (h3.below hSw); go_simp
      simp only [Act.put, List.setIfInBounds_toArray, List.set_cons_zero, List.set_cons_succ]
      refine wpAnyH_takeL (i := 16) (v := .bool true) rfl (by kernel_rfl) (by kernel_rfl) (by kernel_rfl) (fun _ _ _ h => h) (by rfl) ?h16b (by assumption) ?_
      case h16b => intro w' hSw; go_simp
      simp only [Act.put, List.setIfInBounds_toArray, List.set_cons_zero, List.set_cons_succ]
      refine wpAnyH_takeL (i := 17) (v := .bool true) rfl (by kernel_rfl) (by kernel_rfl) (by kernel_rfl) (fun _ _ _ h => h) (by rfl) ?h17b (by assumption) ?_
      case h17b => intro w' hSw; go_simp
      simp only [Act.put, List.setIfInBounds_toArray, List.set_cons_zero, List.set_cons_succ]
      refine wpAnyH_takeL (i := 18) (v := .bool true) rfl (by kernel_rfl) (by kernel_rfl) (by kernel_rfl) (fun _ _ _ h => h) (by rfl) ?h18b (by assumption) ?_
      case h18b => intro w' hSw; go_simp
      simp only [Act.put, List.setIfInBounds_toArray, List.set_cons_zero, List.set_cons_succ]
      refine wpAnyH_takeL (i := 19) (v := ?v19b) rfl (by kernel_rfl) (by kernel_rfl) (by kernel_rfl) (fun _ _ _ h => h) (by rfl) ?h19b (by assumption) ?_
      case h19b => intro w' hSw; go_simp <;> with_reducible rfl
      simp only [Act.put, List.setIfInBounds_toArray, List.set_cons_zero, List.set_cons_succ]
      refine wpAnyH_takeL (i := 22) (v := ?v22b) rfl (by kernel_rfl) (by kernel_rfl) (by kernel_rfl) (fun _ _ _ h => h) (by rfl) ?h22b (by assumption) ?_
      case h22b => intro w' hSw; go_simp <;> with_reducible rfl
      simp only [Act.put, List.setIfInBounds_toArray, List.set_cons_zero, List.set_cons_succ]
      refine wpAnyH_takeL (i := 23) (v := .string (strOfNums (signed xs))) rfl (by kernel_rfl) (by kernel_rfl) (by kernel_rfl) (fun _ _ _ h => h) (by rfl) ?h23b (by assumption) ?_
      case h23b => intro w' hSw; have hk := run_str _ (hG.below hSw); go_simp
      simp only [Act.put, List.setIfInBounds_toArray, List.set_cons_zero, List.set_cons_succ]
      refine allReadyH_oneL (i := 20) (by kernel_rfl) rfl (by rfl) (fun K hK => ?_)
      go_simp
      refine (signed_any _ (canon xs) _ hC (canon_byt hbx) (by omega)).mono ?_
      rintro _ wn ⟨v4, rfl, ho, hb⟩
      replace hC := hC.below hb
      replace hs := hs.below hb
      replace hG := hG.below hb
      replace h1 := h1.below hb
      replace h2 := h2.below hb
      replace h3 := h3.below hb
      have h4 := SlV.ofOwn ho
      rw [signed_canon] at h4
      replace hL := hL.trans (hb.mono hL.size)
      refine hK.out _ _ hb (fun _ => ?_)
      refine wpAnyH_later hb (fun hHeld => ?_)
      clear hK hb
      clear K
      refine wpAnyH_takeL (i := 21) (v := .string (strOfNums (signed xs))) rfl (by kernel_rfl) (by kernel_rfl) (by kernel_rfl) (fun _ _ _ h => h) (by rfl) ?h21b (by assumption) ?_
      case h21b => intro w' hSw; have hk := run_str _ (h4.below hSw); go_simp
      simp only [Act.put, List.setIfInBounds_toArray, List.set_cons_zero, List.set_cons_succ]
      refine wpAnyH_takeL (i := 24) (v := .bool true) rfl (by kernel_rfl) (by kernel_rfl) (by kernel_rfl) (fun _ _ _ h => h) (by rfl) ?h24b (by assumption) ?_
      case h24b => intro w' hSw; go_simp
      simp only [Act.put, List.setIfInBounds_toArray, List.set_cons_zero, List.set_cons_succ]
      refine wpAnyH_takeL (i := 25) (v := .bool true) rfl (by kernel_rfl) (by kernel_rfl) (by kernel_rfl) (fun _ _ _ h => h) (by rfl) ?h25b (by assumption) ?_
      case h25b => intro w' hSw; go_simp
      simp only [Act.put, List.setIfInBounds_toArray, List.set_cons_zero, List.set_cons_succ]
      refine wpAnyH_takeL (i := 26) (v := ?v26b) rfl (by kernel_rfl) (by kernel_rfl) (by kernel_rfl) (fun _ _ _ h => h) (by rfl) ?h26b (by assumption) ?_
      case h26b => intro w' hSw; go_simp <;> with_reducible rfl
      simp only [Act.put, List.setIfInBounds_toArray, List.set_cons_zero, List.set_cons_succ]
      refine wpAnyH_done (by kernel_rfl) ?_ _
      refine NoPanic.normal ?_
      go_wp2
      go_ret
      exact ⟨rfl, hL⟩
    · have hk1 : k < ls.length := by omega
      obtain ⟨u, gu, su⟩ := hR.get k hk1
      obtain ⟨b1, o1, rfl, _, f1⟩ := hS.cells (by have := hR.length; omega)
      have d1 := f1 k u gu
      have hM' := hlsh _ (List.getElem_mem hk1)
      have hbj := hlb _ (List.getElem_mem hk1)
      have hts : ls.take (k + 1) = ls.take k ++ [ls[k]] := take_snoc hk1
      clear f1
      generalize ls[k] = y at *
      have HTS := Away.mk hts
      clear hts hcp
      obtain ⟨M, hM⟩ : ∃ M, y.length = M := ⟨_, rfl⟩
      have hsu := Away.mk su
      obtain ⟨ua, uc, rfl, u1, u2⟩ := su.shapeU hM
      go_wp2_with fail
      refine (trim_any _ y _ hsu.out hbj (by omega)).mono ?_
      rintro e w3 ⟨vt, rfl, hot, hb⟩
      have hT := SlV.ofOwn hot
      clear hot
      have d3 := (hb.cell (p := ⟨b1, o1 + k, none⟩) (World.block_lt_of_cell? _ _ d1)).trans d1
      have s3 := hsu.out.below hb
      replace hB := hB.trans (hb.mono hB.size)
      replace hL := hL.trans (hb.mono hL.size)
      clear hb d1 hsu hS hR hs hC gu
      obtain ⟨T, hTl⟩ : ∃ T, (trim y).length = T := ⟨_, rfl⟩
      have hty := trim_length y
      obtain ⟨ta, tc, rfl, t1, t2⟩ := hT.shapeU hTl
      generalize trim y = ty at *
      have HGO : Away (y.getLast? ≠ some 13 → ∀ z ∈ ls.take (k + 1), z.getLast? ≠ some 13) := Away.mk (fun h z hz => by
        rw [HTS.out] at hz
        rcases List.mem_append.1 hz with h1 | h1
        · exact hA.out z h1
        · rw [List.mem_singleton.1 h1]; exact h)
      cases M with
      | zero =>
        obtain rfl : T = 0 := by omega
        obtain rfl : y = [] := List.eq_nil_of_length_eq_zero hM
        go_wp2
        go_quiet (fail)
        go_wp2
        go_roundw
        case rel => exact ⟨k + 1, by omega, by go_num, Away.mk (HGO.out (by simp)), below_drewN hB nq⟩
        case measure => simp [intOf]; omega
      | succ m =>
        obtain ⟨x, hx⟩ : ∃ x, y[m]'(by omega) = x := ⟨_, rfl⟩
        obtain ⟨b2, o2, rfl, _, f2⟩ := s3.cells (by rw [U_length]; omega)
        have e1 := f2 m (.int .u8 x) (by rw [U_get y m (by omega), hx])
        have hxb := hbj x (by rw [← hx]; exact List.getElem_mem _)
        have hlast : y.getLast? = some x := by rw [List.getLast?_eq_getElem?, hM, ← hx]; simp
        clear f2 hx
        have HLAST := Away.mk hlast
        clear hlast
        by_cases hx13 : x = 13
        · subst hx13
          go_wp2
          go_quiet (fail)
          go_wp2_with fail
          refine (alive_true _).mono ?_
          rintro e w4 ⟨rfl, hb⟩
          have hz := (below_drewN hL nq).trans (hb.mono (below_drewN hL nq).size)
          go_wp2
          go_ret
          exact ⟨rfl, hz⟩
        · have HX := Away.mk (show y.getLast? ≠ some 13 by rw [HLAST.out]; simpa using hx13)
          have hxd : decide (x = 13) = false := decide_eq_false hx13
          have hxe : (x == 13) = false := by simpa using hx13
          have HX13 := Away.mk hx13
          clear hx13
          cases T with
          | zero =>
            go_wp2
            go_quiet (fail)
            go_wp2
            go_roundw
            case rel => exact ⟨k + 1, by omega, by go_num, Away.mk (HGO.out HX.out), below_drewN hB nq⟩
            case measure => simp [intOf]; omega
          | succ t =>
            obtain ⟨tx, htx⟩ : ∃ x, ty[t]'(by omega) = x := ⟨_, rfl⟩
            obtain ⟨b4, o4, rfl, _, f4⟩ := hT.cells (by rw [U_length]; omega)
            have e2 := f4 t (.int .u8 tx) (by rw [U_get ty t (by omega), htx])
            clear f4 htx
            by_cases ht13 : tx = 13
            · subst ht13
              go_wp2
              go_quiet (fail)
              go_wp2_with fail
              refine (alive_true _).mono ?_
              rintro e w4 ⟨rfl, hb⟩
              have hz := (below_drewN hL nq).trans (hb.mono (below_drewN hL nq).size)
              go_wp2
              go_ret
              exact ⟨rfl, hz⟩
            · have htd : decide (tx = 13) = false := decide_eq_false ht13
              have hte : (tx == 13) = false := by simpa using ht13
              clear ht13
              go_wp2
              go_quiet (fail)
              go_wp2
              go_roundw
              case rel => exact ⟨k + 1, by omega, by go_num, Away.mk (HGO.out HX.out), below_drewN hB nq⟩
              case measure => simp [intOf]; omega

set_option maxRecDepth 100000 in
theorem lifted (os : Os) (started : os.Started) (H : Type) (enc : TypeId × Value → H) :
    ReturnsInHanded {} Tryd.checked os 5 .any (fun w args => (Rows.textOnceSpec.pre enc Tryd.prog Tryd.f5 [] false w args ∧ laidMetH Tryd.prog T.laid1 w) ∧ sizedMet enc Tryd.prog Tryd.f5 (OpenSpec.ofChange Rows.textOnceSpec) false w args) (Rows.textOnceSpec.post enc Tryd.prog Tryd.f5 false true false false) := by
  refine returnsInHanded_of_change_and (C := Tryd.checked) (X := fun w _ => laidMetH Tryd.prog T.laid1 w) (fun _ _ _ hh h => h.of_heap hh) own started (by kernel_rfl) Tryd.func5
    (ChangeSpec.witness_shaped (enc := enc) (C := Tryd.checked) (os := os) (X := fun w _ => laidMetH Tryd.prog T.laid1 w) false (World.laidAll Tryd.prog os T.laid1) #[.slice none 0 0] 8 (World.laidAll_os _ _ _) (World.shaped_of_ZipB (by kernel_rfl) (by kernel_rfl)) (by kernel_rfl) (by kernel_rfl) (by kernel_rfl) (T.laid_met os _)) ?_
  intro W base args ds gs before hval0 hW _ _ hLd _
  have hval : ∀ (j : Nat) t v, Tryd.f5.params[j]? = some t → args[j]? = some v → Value.okWide Tryd.prog W .any base t v := hval0
  have hW' := hW
  obtain ⟨p, q, hA0, hV, rfl, hfz, hnd⟩ := hW
  have hA : DataW.TrodAll enc Tryd.prog W 0 (fun _ => true) true Tryd.f5.params.toList args.toList ds p := hA0
  rw [Tryd.params5] at hA hval
  obtain ⟨v0, vs0, d0, ds0, p0, q0, hargs, rfl, rfl, h0, r0⟩ := trodAll_cons hA
  obtain ⟨rfl, rfl, rfl⟩ := trodAll_nil r0
  obtain rfl : args = #[v0] := by cases args; simp_all
  obtain ⟨rfl, rfl⟩ := trodVars_none hV
  obtain ⟨a0, len0, cap0, rfl⟩ := okWide_slice Tryd.underlying22 (hval 0 22 v0 rfl rfl)
  have k0 := h0
  have lt0 : ∀ x ∈ p0, x.block < W.heap.size := by obtain ⟨m, hm⟩ := k0; exact DataW.trod_lt m _ _ _ hm
  obtain ⟨z0, w0⟩ : ∃ zs, IsRow .u8 W a0 len0 cap0 zs := by
    obtain ⟨fuel, hf⟩ := h0
    rcases open_ints Tryd.underlying22 Tryd.underlying5 (by kernel_rfl) hf with ⟨hcs, _⟩ | ⟨x, l, c, zs, hcs, _, hl, hm, hz, _, hcell, hwz⟩
    · simp [Value.cells] at hcs
      obtain ⟨rfl, rfl, rfl⟩ := hcs
      exact ⟨[], .inl ⟨rfl, rfl, rfl, rfl⟩⟩
    · simp [Value.cells] at hcs
      obtain ⟨rfl, rfl, rfl⟩ := hcs
      exact ⟨zs, .inr ⟨_, rfl, hl, hm, by simpa using hz, hcell, hwz⟩⟩
  clear hA0 hval0
  refine (walk a0 len0 cap0 z0 W w0).mono fun e W' ⟨he, bel⟩ => ?_
  subst he
  exact ⟨_, rfl, _, _, _, [], _, [], hW', trodAll_mk1 (shut_bool Tryd.underlying4 _), (trodAll_cons_mk (Below.trod laidOut (by kernel_rfl) (of_decide_eq_true (by kernel_rfl)) k0 bel lt0) trodAll_mk0), rfl, bel.frame _, fun h => by cases h⟩

theorem over : Rows.textOnceRow.holds Tryd.pinned (OpenSpec.ofChange Rows.textOnceSpec) :=
  OpenClaim.holds_of_wide 5 Tryd.f5 rfl rfl rfl rfl rfl rfl rfl ⟨rfl, rfl, rfl, rfl, rfl⟩ rfl rfl rfl rfl rfl (by kernel_rfl) Tryd.func5 (by kernel_rfl)
    (of_decide_eq_true (by kernel_rfl)) (by unfold Func.isWrapper; first | (rw [if_pos (by decide +kernel)]; kernel_rfl) | (rw [if_neg (by decide +kernel)]; exact ⟨rfl, rfl⟩))
    (fun os started H enc _ => lifted os started H enc)

end Go.Proofs.YtcllmkfaifalgaaDoor.textOnce
namespace Go.Proofs.YtcllmkfaifalgaaDoor
/-- The given statement. -/
theorem textOnce_proved : Rows.TextOnceCardSaid :=
  Claim7.holds_tied_plain_at .later [] [.data, .pinned] true (true, "4c7015fd4d7d1341bd0d4dc2c40d8b994845262db2060e7f52ae95cdd162ef0f") false
    textOnce.over (fun _ h => by cases h) (by kernel_rfl) (fun _ h => by cases h) textOnce_row_tie rfl ⟨rfl, rfl⟩ (by kernel_rfl) rfl
    (fun f fn hf hfn => by
      obtain rfl : f = 5 := Option.some.inj ((show Tryd.prog.funcNamed "affiant/affiantlaw15.TextOnce" = some 5 by kernel_rfl).symm.trans hf) |>.symm
      obtain rfl : fn = Tryd.f5 := (Option.some.inj (Tryd.func5.symm.trans hfn)).symm
      exact ⟨by kernel_rfl, fun j t ht => by
        rw [Tryd.params5] at ht
        have hm : t ∈ ([22] : List TypeId) := by simpa using Array.mem_of_getElem? ht
        have hall : (([22] : List TypeId).all fun u => !Tryd.prog.wantsStandIn u) = true := by kernel_rfl
        exact (show Tryd.prog.wantsStandIn t = false by simpa using List.all_eq_true.1 hall t hm)⟩)
    (by kernel_rfl)
end Go.Proofs.YtcllmkfaifalgaaDoor
