/-
  Proved: for every algorithm's number and every slice of byte slices the law HashPieces returns true, and its arguments read as before. No conditions of ours; the packages' variables start as their initialisers lay them, as the given card ties them.
-/
import Derived.Test.YtmbaenodibfedaaDoorRows
import Derived.Test.YtmbaenodibfedaaDoorCards
import Derived.Test.YtmbaenodibfedaaDoorTie
import Derived.SevenTiedAt
import Derived.Test.YtmbaenodibfedaaDoorHshQ
import Derived.WalkKit
import Derived.ProofKit
import Derived.OpenShut
import Derived.ShutString
import Derived.ChangeOld
import Derived.Below
namespace Go.Proofs.YtmbaenodibfedaaDoor.hashPieces
open Go.ChangeShapes Go.WideShapes Go.ChangeAt Go.RowKit
open Go.ChangeMaps (open_string shut_string)
set_option linter.unusedVariables false

theorem own : ownKnob Tryd.prog.godebug = none := by kernel_rfl
theorem laidOut : laidOutB Tryd.prog = true := by kernel_rfl

/-- What the round's question reads. -/
theorem four_hundred {m : Nat} (h : ¬ 400 < m) : ¬ (400 : Int) < (m : Int) := by omega
set_option maxRecDepth 20000 in
set_option maxHeartbeats 3200000 in
/-- The walk: the law returns true and writes nothing that was there. -/
theorem walk (a0 : Int) (a1 : Option Addr) (len1 cap1 : Nat) (w : World) (w0 : (Lit.int .i64 a0).wf = true) (hl1 : len1 ≤ maxLen)
    (hpc0 : ∀ i, i < len1 → ∃ b off ua um uc xs, a1 = some ⟨b, off, none⟩ ∧ w.cell? ⟨b, off + i, none⟩ = some (.slice ua um uc) ∧ SlV w (.slice ua um uc) (C .u8 xs) ∧ xs.length = um ∧ Lo 256 xs) (hTab : S9.Tabs w) :
    Calls Tryd.prog 4 #[.int .i64 a0, .slice a1 len1 cap1] w fun e w' => e = .returned (.bool true) ∧ Below w.heap.size w w' := by
  clear w0
  by_cases hk : S9.Kn a0
  case neg =>
    go_enter Tryd.func4, Tryd.ntmps4
    go_wp2_with fail
    refine (S9.new_no a0 hk w).mono ?_
    rintro e w1 ⟨rfl, rfl⟩
    go_wp2_with fail
    refine (S9.alive_true _ hTab).mono ?_
    rintro e w4 ⟨rfl, hb4⟩
    go_wp2
    go_ret
    exact ⟨rfl, hb4⟩
  have hlx : (len1 : Int) ≤ 9223372036854775807 := by unfold maxLen at hl1; omega
  go_enter Tryd.func4, Tryd.ntmps4
  go_wp2_with fail
  refine (S9.new_any a0 hk w hTab).mono ?_
  rintro e w1 ⟨hp, q, rfl, hI1, hp1, hq1, hb1⟩
  have hA := Below.more hb1 hb1.size (.cells #[] 5)
  have hoA := own_empty w1 w.heap.size 5 hb1.size
  have hI2 := hI1.below ((Below.refl w1.heap.size w1).alloc (Nat.le_refl _) (.cells #[] 5))
  have hP0 : S9.PI w (w1.alloc (.cells #[] 5)) a0 hp q (.slice none 0 0) (.slice (some ⟨w1.heap.size, 0, none⟩) 0 0) [] := ⟨hI2, hoA, hA.1, hp1, hq1, by intro k hk; simp [Value.ownBlock] at hk, .inr (by simp [Value.ownBlock])⟩
  clear hI1 hI2 hoA hA hb1
  go_wp2
  go_loopw [7, 8] (fun av iv wr => ∃ (k : Nat) (bs : List Nat) (v : Value), k ≤ len1 ∧ k ≤ 16 ∧ iv = .int .i64 (k : Int) ∧ av = av ∧ bs.length ≤ 400 * k ∧ Lo 256 bs ∧ S9.PI w wr a0 hp q v av bs) (fun _ iv _ => 16 - (intOf iv).toNat)
  case atStart => exact ⟨0, [], .slice none 0 0, Nat.zero_le _, Nat.zero_le _, rfl, rfl, Nat.le_refl _, Lo.nil _, hP0⟩
  case round =>
    clear hP0
    obtain ⟨k, bs, v, hk1, hk16, rfl, -, hbl, hlob, hP⟩ := hrel
    by_cases hlt : k < len1 ∧ k < 16
    case neg =>
      have hT := hTab.below hP.bel
      have hdd : (decide ((k : Int) < (len1 : Int)) && decide ((k : Int) < 16)) = false := by
        simp only [Bool.and_eq_false_iff, decide_eq_false_iff_not]; omega
      have hgo : (k < len1 ∧ ¬ k < 16) ∨ ¬ k < len1 := by omega
      have hbm : bs.length < 1152921504606846000 := by omega
      have HBM := Away.mk hbm
      clear hdd hbm
      rcases hgo with ⟨g1, g2⟩ | g1
      all_goals (
        go_wp2_with fail
        refine (S9.alive_true _ hT).mono ?_
        rintro e w4 ⟨rfl, hb4⟩
        go_wp2_with fail
        refine (S9.hsum_any (hP.hi.below hb4) hlob HBM.out (hT.below hb4)).mono ?_
        rintro e w5 ⟨x5, rfl, hX5, hb5⟩
        obtain ⟨xa, xc, rfl, hx1, hx2⟩ := (SlV.ofOwn hX5).shp (S9.dig_length a0 bs)
        have hbF := hP.bel.trans ((hb4.trans (hb5.mono hb4.size)).mono hP.bel.size)
        clear hP hT hb4 hb5 hX5
        go_wp2_with fail
        refine (S9.size_any a0 _).mono ?_
        rintro e w6 ⟨rfl, rfl⟩
        go_wp2
        go_ret
        exact ⟨rfl, hbF⟩)
    obtain ⟨hl1', hl2'⟩ := hlt
    obtain ⟨b, off, ua, um, uc, xs, rfl, hcell, hsx, hxl, hxlo⟩ := hpc0 k hl1'
    have hcr : wr.cell? ⟨b, off + k, none⟩ = some (.slice ua um uc) := (hP.bel.cell (p := ⟨b, off + k, none⟩) (World.block_lt_of_cell? w _ hcell)).trans hcell
    have hxm := hsx.len
    rw [C_length, hxl] at hxm
    have hux : (um : Int) ≤ 9223372036854775807 := by unfold maxLen at hxm; omega
    have hki : (k : Int) < (len1 : Int) := by omega
    have hk16i : (k : Int) < 16 := by omega
    by_cases hlong : 400 < um
    case pos =>
      have hli : (400 : Int) < (um : Int) := by omega
      go_wp2
      go_roundw
      case rel => exact ⟨k + 1, bs, v, by omega, by omega, by go_num, trivial, by omega, hlob, hP⟩
      case measure => simp [intOf]; omega
    have hli : ¬ (400 : Int) < (um : Int) := by omega
    have hT := hTab.below hP.bel
    obtain ⟨g1, g2, _, g3, _, _, _⟩ := hP.hi.lt
    have g4 := fun k e => (hP.own.lt k e).2
    go_wp2_with fail
    refine (S9.hcopy_any hP.hi).mono ?_
    rintro e w2 ⟨hpc, qc, vc, rfl, hC2, c1, c2, c3, hb2⟩
    have hP2 := hP.below hb2
    have hA2 := Below.more (Below.refl w2.heap.size w2) (Nat.le_refl _) (.cells #[] 5)
    have hoA := own_empty w2 w2.heap.size 5 (Nat.le_refl _)
    have hsA := SlV.ofOwn (hP2.below hA2.1).own
    have hcr2 : w2.cell? ⟨b, off + k, none⟩ = some (.slice ua um uc) := (hb2.cell (p := ⟨b, off + k, none⟩) (World.block_lt_of_cell? wr _ hcr)).trans hcr
    clear hcr hP
    obtain ⟨nb, hnb⟩ : ∃ nb, bs.length = nb := ⟨_, rfl⟩
    have HNb := Away.mk hnb
    go_wp2_with (at_builtin; refine wpList_append_at rfl (.tmp 52) (.tmp 53) 22 rfl w2.heap.size 5 _ 1 Tryd.underlying22 S2.inf8 rfl _ 0 [] rfl hoA _ (C .u8 bs) rfl hsA (C_one _ _) (by rw [C_length]; unfold maxLen; omega) (by rw [C_length]; omega) (by simp) ?_)
    intro wv w3 ho3 hg3 hwh3
    have hb3 : Below w2.heap.size w2 w3 := hA2.1.grown hg3 hA2.2 (fun k hk => (hoA.lt k hk).1)
    have ho3 : w3.ownsRow w2.heap.size 5 1 wv nb (C .u8 bs) := by simpa [C_length, hnb] using ho3
    have hP3 := hP2.below hb3
    have hC3 := hC2.below hb3
    have hcr3 : w3.cell? ⟨b, off + k, none⟩ = some (.slice ua um uc) := (hP3.bel.cell (p := ⟨b, off + k, none⟩) (World.block_lt_of_cell? w _ hcell)).trans hcell
    have hSep : S9.Sep wr.heap.size hp q v u7 hpc qc vc wv := ⟨g1, g2, fun k e => (g3 k e).2, g4, c1, c2, c3, fun k e => Nat.le_trans hb2.size (ho3.lt k e).1⟩
    have hsx3 := hsx.below hP3.bel
    have hub : 0 < xs.length → ∃ b', (Value.slice ua um uc).ownBlock = some b' ∧ b' < w.heap.size := by
      intro h
      obtain ⟨b', o', rfl, hlt', _⟩ := hsx.cells (by rw [C_length]; exact h)
      exact ⟨b', rfl, hlt'⟩
    clear hoA hsA hA2 hg3 hwh3 hP2 hC2 hcr2 hb2 hb3 hT g1 g2 g3 g4 c1 c2 c3
    go_wp2_with (at_builtin; refine wpList_append_at rfl (.tmp 55) (.tmp 59) 22 rfl w.heap.size 5 _ 1 Tryd.underlying22 S2.inf8 rfl _ bs.length _ rfl hP3.own _ (C .u8 xs) rfl hsx3 (C_one _ _) (by rw [C_length]; unfold maxLen; omega) (by rw [C_length]; omega) hP3.bel.size ?_)
    intro av4 w4 ho4 hg4 hwh4
    obtain ⟨hI4, hC4, hW4, hb4⟩ := S9.after_append hP3 hC3 ho3 hSep hg4
    have ho4 : w4.ownsRow w.heap.size 5 1 av4 (bs ++ xs).length (C .u8 (bs ++ xs)) := by
      rw [List.length_append, C_append, hnb]
      rw [C_length] at ho4
      exact ho4
    have hcr4 : w4.cell? ⟨b, off + k, none⟩ = some (.slice ua um uc) := (hb4.cell (p := ⟨b, off + k, none⟩) (World.block_lt_of_cell? w _ hcell)).trans hcell
    have hsx4 := hsx.below hb4
    have hT4 := hTab.below hb4
    clear hg4 hcr3 hsx3
    go_wp2_with fail
    refine (S9.hwrite_any hI4 hlob (.slice ua um uc) xs hxlo hsx4 (fun h e => ?_) (fun h => ?_) (by omega) hT4).mono ?_
    · obtain ⟨b', e1, e2⟩ := hub h
      rw [e1] at e
      have := hP3.q0
      simp only [Option.some.injEq] at e
      omega
    · obtain ⟨b', e1, e2⟩ := hub h
      refine .inr (fun e => ?_)
      have := hP3.v0 b' (by rw [← e, e1])
      omega
    rintro e w5 ⟨rfl, v5, hI5, hk5, hv5⟩
    obtain ⟨hP5, hC5, hW5⟩ := S9.after_write hP3 hI4 hC4 hW4 hb4 hSep ho4 hwh4 hI5 hk5 hv5
    clear hI5 hk5 hv5 hI4 hC4 hW4 hb4 hSep ho4 hwh4 hP3 hC3 ho3 hcr4 hsx4 hT4 hub
    obtain ⟨nn, hnn⟩ : ∃ nn, (bs ++ xs).length = nn := ⟨_, rfl⟩
    have HN5 := Away.mk hnn
    have hn6 : nn ≤ 8000 := by rw [← hnn, List.length_append]; omega
    have hb6 : nb ≤ 8000 := by omega
    obtain ⟨aa, ac, rfl, hs1, hs2⟩ := (SlV.ofOwn hP5.own).shp hnn
    obtain ⟨wa, wc, rfl, hs3, hs4⟩ := (SlV.ofOwn hW5).shp hnb
    have hlo5 : Lo 256 (bs ++ xs) := hlob.append hxlo
    have hm5 : (bs ++ xs).length < 1152921504606846000 := by omega
    have hmb : bs.length < 1152921504606846000 := by omega
    obtain ⟨D1, hD1⟩ : ∃ D1, S9.dig a0 (bs ++ xs) = D1 := ⟨_, rfl⟩
    obtain ⟨D2, hD2⟩ : ∃ D2, S9.dig a0 bs = D2 := ⟨_, rfl⟩
    have HD1 := Away.mk hD1
    have HD2 := Away.mk hD2
    have HM5 := Away.mk hm5
    have HMb := Away.mk hmb
    have hT5 := hTab.below hP5.bel
    clear hD1 hD2 hnn hnb hm5 hmb
    go_wp2_with fail
    refine (S9.sum_any a0 hk _ (bs ++ xs) _ (SlV.ofOwn hP5.own) hlo5 (by have := HM5.out; omega) hT5).mono ?_
    rintro e w6 ⟨want, rfl, hW6, hbl6⟩
    rw [HD1.out] at hW6
    go_wp2_with fail
    refine (S9.sum_any a0 hk _ bs _ (SlV.ofOwn (own_below hW5 hbl6)) hlob (by have := HMb.out; omega) (hT5.below hbl6)).mono ?_
    rintro e w7 ⟨old, rfl, hO7, hb7⟩
    rw [HD2.out] at hO7
    have hb57 := hbl6.trans (hb7.mono hbl6.size)
    have hS7 : S9.Two a0 hp q v5 hpc qc vc (bs ++ xs) bs want old D1 D2 w7 := ⟨hP5.hi.below hb57, hC5.below hb57, hW6.below hb7, hO7, hT5.below hb57⟩
    have hP7 := hP5.below hb57
    have hwn : IntKind.u64.wrap (nn : Int) = (nn : Int) := by rw [IntKind.wrap_u64]; omega
    have hwb : IntKind.u64.wrap (nb : Int) = (nb : Int) := by rw [IntKind.wrap_u64]; omega
    clear hP5 hC5 hW5 hT5 hW6 hO7 hb57 hbl6 hb7 hpc0 hcell hsx hxm hux hki hk16i hli
    go_wp2_with fail
    refine wp_region_noPanic ?_
    refine wp_region_held_drew (S := S9.Two a0 hp q v5 hpc qc vc (bs ++ xs) bs want old D1 D2) (by kernel_rfl) (hS7.drew) (fun hHeld => ?_)
    refine wpAnyH_takeL (i := 0) (v := ?v0z) rfl (by kernel_rfl) (by kernel_rfl) (by kernel_rfl) (fun _ _ _ h => h) (by rfl) ?h0z (by assumption) ?_
    case h0z => intro w hSw; go_simp <;> with_reducible rfl
    simp only [Act.put, List.setIfInBounds_toArray, List.set_cons_zero, List.set_cons_succ]
    refine wpAnyH_takeL (i := 1) (v := ?v1z) rfl (by kernel_rfl) (by kernel_rfl) (by kernel_rfl) (fun _ _ _ h => h) (by rfl) ?h1z (by assumption) ?_
    case h1z => intro w hSw; go_simp <;> with_reducible rfl
    simp only [Act.put, List.setIfInBounds_toArray, List.set_cons_zero, List.set_cons_succ]
    refine wpAnyH_takeL (i := 2) (v := ?v2z) rfl (by kernel_rfl) (by kernel_rfl) (by kernel_rfl) (fun _ _ _ h => h) (by rfl) ?h2z (by assumption) ?_
    case h2z => intro w hSw; go_simp <;> with_reducible rfl
    simp only [Act.put, List.setIfInBounds_toArray, List.set_cons_zero, List.set_cons_succ]
    refine wpAnyH_takeL (i := 3) (v := ?v3z) rfl (by kernel_rfl) (by kernel_rfl) (by kernel_rfl) (fun _ _ _ h => h) (by rfl) ?h3z (by assumption) ?_
    case h3z => intro w hSw; go_simp <;> with_reducible rfl
    simp only [Act.put, List.setIfInBounds_toArray, List.set_cons_zero, List.set_cons_succ]
    refine wpAnyH_takeL (i := 4) (v := ?v4z) rfl (by kernel_rfl) (by kernel_rfl) (by kernel_rfl) (fun _ _ _ h => h) (by rfl) ?h4z (by assumption) ?_
    case h4z => intro w hSw; go_simp <;> with_reducible rfl
    simp only [Act.put, List.setIfInBounds_toArray, List.set_cons_zero, List.set_cons_succ]
    refine wpAnyH_takeL (i := 5) (v := ?v5z) rfl (by kernel_rfl) (by kernel_rfl) (by kernel_rfl) (fun _ _ _ h => h) (by rfl) ?h5z (by assumption) ?_
    case h5z => intro w hSw; go_simp <;> with_reducible rfl
    simp only [Act.put, List.setIfInBounds_toArray, List.set_cons_zero, List.set_cons_succ]
    refine wpAnyH_takeL (i := 6) (v := ?v6z) rfl (by kernel_rfl) (by kernel_rfl) (by kernel_rfl) (fun _ _ _ h => h) (by rfl) ?h6z (by assumption) ?_
    case h6z => intro w hSw; go_simp <;> with_reducible rfl
    simp only [Act.put, List.setIfInBounds_toArray, List.set_cons_zero, List.set_cons_succ]
    refine wpAnyH_takeL (i := 7) (v := ?v7z) rfl (by kernel_rfl) (by kernel_rfl) (by kernel_rfl) (fun _ _ _ h => h) (by rfl) ?h7z (by assumption) ?_
    case h7z => intro w hSw; go_simp <;> with_reducible rfl
    simp only [Act.put, List.setIfInBounds_toArray, List.set_cons_zero, List.set_cons_succ]
    refine wpAnyH_takeL (i := 8) (v := ?v8z) rfl (by kernel_rfl) (by kernel_rfl) (by kernel_rfl) (fun _ _ _ h => h) (by rfl) ?h8z (by assumption) ?_
    case h8z => intro w hSw; go_simp <;> with_reducible rfl
    simp only [Act.put, List.setIfInBounds_toArray, List.set_cons_zero, List.set_cons_succ]
    refine wpAnyH_takeL (i := 9) (v := ?v9z) rfl (by kernel_rfl) (by kernel_rfl) (by kernel_rfl) (fun _ _ _ h => h) (by rfl) ?h9z (by assumption) ?_
    case h9z => intro w hSw; go_simp <;> with_reducible rfl
    simp only [Act.put, List.setIfInBounds_toArray, List.set_cons_zero, List.set_cons_succ]
    refine wpAnyH_takeL (i := 10) (v := ?v10z) rfl (by kernel_rfl) (by kernel_rfl) (by kernel_rfl) (fun _ _ _ h => h) (by rfl) ?h10z (by assumption) ?_
    case h10z => intro w hSw; go_simp <;> with_reducible rfl
    simp only [Act.put, List.setIfInBounds_toArray, List.set_cons_zero, List.set_cons_succ]
    refine wpAnyH_takeL (i := 11) (v := ?v11z) rfl (by kernel_rfl) (by kernel_rfl) (by kernel_rfl) (fun _ _ _ h => h) (by rfl) ?h11z (by assumption) ?_
    case h11z => intro w hSw; go_simp <;> with_reducible rfl
    simp only [Act.put, List.setIfInBounds_toArray, List.set_cons_zero, List.set_cons_succ]
    refine wpAnyH_takeL (i := 14) (v := ?v14z) rfl (by kernel_rfl) (by kernel_rfl) (by kernel_rfl) (fun _ _ _ h => h) (by rfl) ?h14z (by assumption) ?_
    case h14z => intro w hSw; go_simp <;> with_reducible rfl
    simp only [Act.put, List.setIfInBounds_toArray, List.set_cons_zero, List.set_cons_succ]
    refine wpAnyH_takeL (i := 15) (v := (.string (strOfNums (D1.map Int.ofNat)))) rfl (by kernel_rfl) (by kernel_rfl) (by kernel_rfl) (fun _ _ _ h => h) (by rfl) ?h15z (by assumption) ?_
    case h15z => intro w hSw; exact S9.exec_conv rfl rfl (S9.str9 hSw.wn)
    simp only [Act.put, List.setIfInBounds_toArray, List.set_cons_zero, List.set_cons_succ]
    refine allReadyH_oneL (i := 12) (by kernel_rfl) rfl (by rfl) (fun K hK => ?_)
    go_simp
    refine (S9.hsum_any hS7.drew.h hlo5 HM5.out hS7.drew.t).mono ?_
    rintro _ w8 ⟨x8, rfl, hX8, hb8⟩
    rw [HD1.out] at hX8
    have hS8 := hS7.drew.below hb8
    refine hK.out _ _ (hS8) (fun hHeld => ?_)
    clear hK K
    refine allReadyH_oneL (i := 13) (by kernel_rfl) rfl (by rfl) (fun K hK => ?_)
    refine wp_value (.string (strOfNums (D1.map Int.ofNat))) (S9.exec_conv rfl rfl (S9.str9 (SlV.ofOwn hX8))) ?_
    refine hK.out _ _ (hS8) (fun hHeld => ?_)
    clear hK K
    refine wpAnyH_takeL (i := 16) (v := ?v16z) rfl (by kernel_rfl) (by kernel_rfl) (by kernel_rfl) (fun _ _ _ h => h) (by rfl) ?h16z (by assumption) ?_
    case h16z => intro w hSw; go_simp <;> with_reducible rfl
    simp only [Act.put, List.setIfInBounds_toArray, List.set_cons_zero, List.set_cons_succ]
    refine wpAnyH_takeL (i := 17) (v := ?v17z) rfl (by kernel_rfl) (by kernel_rfl) (by kernel_rfl) (fun _ _ _ h => h) (by rfl) ?h17z (by assumption) ?_
    case h17z => intro w hSw; go_simp <;> with_reducible rfl
    simp only [Act.put, List.setIfInBounds_toArray, List.set_cons_zero, List.set_cons_succ]
    refine wpAnyH_takeL (i := 18) (v := ?v18z) rfl (by kernel_rfl) (by kernel_rfl) (by kernel_rfl) (fun _ _ _ h => h) (by rfl) ?h18z (by assumption) ?_
    case h18z => intro w hSw; go_simp <;> with_reducible rfl
    simp only [Act.put, List.setIfInBounds_toArray, List.set_cons_zero, List.set_cons_succ]
    refine wpAnyH_takeL (i := 19) (v := ?v19z) rfl (by kernel_rfl) (by kernel_rfl) (by kernel_rfl) (fun _ _ _ h => h) (by rfl) ?h19z (by assumption) ?_
    case h19z => intro w hSw; go_simp <;> with_reducible rfl
    simp only [Act.put, List.setIfInBounds_toArray, List.set_cons_zero, List.set_cons_succ]
    refine wpAnyH_takeL (i := 22) (v := ?v22z) rfl (by kernel_rfl) (by kernel_rfl) (by kernel_rfl) (fun _ _ _ h => h) (by rfl) ?h22z (by assumption) ?_
    case h22z => intro w hSw; go_simp <;> with_reducible rfl
    simp only [Act.put, List.setIfInBounds_toArray, List.set_cons_zero, List.set_cons_succ]
    refine wpAnyH_takeL (i := 23) (v := (.string (strOfNums (D2.map Int.ofNat)))) rfl (by kernel_rfl) (by kernel_rfl) (by kernel_rfl) (fun _ _ _ h => h) (by rfl) ?h23z (by assumption) ?_
    case h23z => intro w hSw; exact S9.exec_conv rfl rfl (S9.str9 hSw.od)
    simp only [Act.put, List.setIfInBounds_toArray, List.set_cons_zero, List.set_cons_succ]
    refine allReadyH_oneL (i := 20) (by kernel_rfl) rfl (by rfl) (fun K hK => ?_)
    go_simp
    refine (S9.hsum_any hS8.c hlob HMb.out hS8.t).mono ?_
    rintro _ w9 ⟨x9, rfl, hX9, hb9⟩
    rw [HD2.out] at hX9
    have hS9 := hS8.below hb9
    refine hK.out _ _ (hS9) (fun hHeld => ?_)
    clear hK K
    refine allReadyH_oneL (i := 21) (by kernel_rfl) rfl (by rfl) (fun K hK => ?_)
    refine wp_value (.string (strOfNums (D2.map Int.ofNat))) (S9.exec_conv rfl rfl (S9.str9 (SlV.ofOwn hX9))) ?_
    refine hK.out _ _ (hS9) (fun hHeld => ?_)
    clear hK K
    refine wpAnyH_takeL (i := 24) (v := ?v24z) rfl (by kernel_rfl) (by kernel_rfl) (by kernel_rfl) (fun _ _ _ h => h) (by rfl) ?h24z (by assumption) ?_
    case h24z => intro w hSw; go_simp <;> with_reducible rfl
    simp only [Act.put, List.setIfInBounds_toArray, List.set_cons_zero, List.set_cons_succ]
    refine wpAnyH_takeL (i := 25) (v := ?v25z) rfl (by kernel_rfl) (by kernel_rfl) (by kernel_rfl) (fun _ _ _ h => h) (by rfl) ?h25z (by assumption) ?_
    case h25z => intro w hSw; go_simp <;> with_reducible rfl
    simp only [Act.put, List.setIfInBounds_toArray, List.set_cons_zero, List.set_cons_succ]
    refine wpAnyH_takeL (i := 26) (v := ?v26z) rfl (by kernel_rfl) (by kernel_rfl) (by kernel_rfl) (fun _ _ _ h => h) (by rfl) ?h26z (by assumption) ?_
    case h26z => intro w hSw; go_simp <;> with_reducible rfl
    simp only [Act.put, List.setIfInBounds_toArray, List.set_cons_zero, List.set_cons_succ]
    refine wpAnyH_takeL (i := 27) (v := ?v27z) rfl (by kernel_rfl) (by kernel_rfl) (by kernel_rfl) (fun _ _ _ h => h) (by rfl) ?h27z (by assumption) ?_
    case h27z => intro w hSw; go_simp <;> with_reducible rfl
    simp only [Act.put, List.setIfInBounds_toArray, List.set_cons_zero, List.set_cons_succ]
    refine wpAnyH_takeL (i := 29) (v := ?v29z) rfl (by kernel_rfl) (by kernel_rfl) (by kernel_rfl) (fun _ _ _ h => h) (by rfl) ?h29z (by assumption) ?_
    case h29z => intro w hSw; go_simp <;> with_reducible rfl
    simp only [Act.put, List.setIfInBounds_toArray, List.set_cons_zero, List.set_cons_succ]
    refine wpAnyH_takeL (i := 30) (v := ?v30z) rfl (by kernel_rfl) (by kernel_rfl) (by kernel_rfl) (fun _ _ _ h => h) (by rfl) ?h30z (by assumption) ?_
    case h30z => intro w hSw; go_simp <;> with_reducible rfl
    simp only [Act.put, List.setIfInBounds_toArray, List.set_cons_zero, List.set_cons_succ]
    refine wpAnyH_takeL (i := 31) (v := (.int .u64 (nn : Int))) rfl (by kernel_rfl) (by kernel_rfl) (by kernel_rfl) (fun _ _ _ h => h) (by rfl) ?h31z (by assumption) ?_
    case h31z => intro w hSw; go_simp; all_goals (rw [hwn])
    simp only [Act.put, List.setIfInBounds_toArray, List.set_cons_zero, List.set_cons_succ]
    refine allReadyH_oneL (i := 28) (by kernel_rfl) rfl (by rfl) (fun K hK => ?_)
    go_simp
    refine (S9.len_any hS9.h).mono ?_
    rintro _ w10 ⟨rfl, rfl⟩
    rw [HN5.out]
    refine hK.out _ _ (hS9) (fun hHeld => ?_)
    clear hK K
    refine wpAnyH_takeL (i := 32) (v := ?v32z) rfl (by kernel_rfl) (by kernel_rfl) (by kernel_rfl) (fun _ _ _ h => h) (by rfl) ?h32z (by assumption) ?_
    case h32z => intro w hSw; go_simp <;> with_reducible rfl
    simp only [Act.put, List.setIfInBounds_toArray, List.set_cons_zero, List.set_cons_succ]
    refine wpAnyH_takeL (i := 33) (v := ?v33z) rfl (by kernel_rfl) (by kernel_rfl) (by kernel_rfl) (fun _ _ _ h => h) (by rfl) ?h33z (by assumption) ?_
    case h33z => intro w hSw; go_simp <;> with_reducible rfl
    simp only [Act.put, List.setIfInBounds_toArray, List.set_cons_zero, List.set_cons_succ]
    refine wpAnyH_takeL (i := 34) (v := ?v34z) rfl (by kernel_rfl) (by kernel_rfl) (by kernel_rfl) (fun _ _ _ h => h) (by rfl) ?h34z (by assumption) ?_
    case h34z => intro w hSw; go_simp <;> with_reducible rfl
    simp only [Act.put, List.setIfInBounds_toArray, List.set_cons_zero, List.set_cons_succ]
    refine wpAnyH_takeL (i := 35) (v := ?v35z) rfl (by kernel_rfl) (by kernel_rfl) (by kernel_rfl) (fun _ _ _ h => h) (by rfl) ?h35z (by assumption) ?_
    case h35z => intro w hSw; go_simp <;> with_reducible rfl
    simp only [Act.put, List.setIfInBounds_toArray, List.set_cons_zero, List.set_cons_succ]
    refine wpAnyH_takeL (i := 37) (v := ?v37z) rfl (by kernel_rfl) (by kernel_rfl) (by kernel_rfl) (fun _ _ _ h => h) (by rfl) ?h37z (by assumption) ?_
    case h37z => intro w hSw; go_simp <;> with_reducible rfl
    simp only [Act.put, List.setIfInBounds_toArray, List.set_cons_zero, List.set_cons_succ]
    refine wpAnyH_takeL (i := 38) (v := ?v38z) rfl (by kernel_rfl) (by kernel_rfl) (by kernel_rfl) (fun _ _ _ h => h) (by rfl) ?h38z (by assumption) ?_
    case h38z => intro w hSw; go_simp <;> with_reducible rfl
    simp only [Act.put, List.setIfInBounds_toArray, List.set_cons_zero, List.set_cons_succ]
    refine wpAnyH_takeL (i := 39) (v := (.int .u64 (nb : Int))) rfl (by kernel_rfl) (by kernel_rfl) (by kernel_rfl) (fun _ _ _ h => h) (by rfl) ?h39z (by assumption) ?_
    case h39z => intro w hSw; go_simp; all_goals (rw [hwb])
    simp only [Act.put, List.setIfInBounds_toArray, List.set_cons_zero, List.set_cons_succ]
    refine allReadyH_oneL (i := 36) (by kernel_rfl) rfl (by rfl) (fun K hK => ?_)
    go_simp
    refine (S9.len_any hS9.c).mono ?_
    rintro _ w11 ⟨rfl, rfl⟩
    rw [HNb.out]
    refine hK.out _ _ (hS9) (fun hHeld => ?_)
    clear hK K
    refine wpAnyH_takeL (i := 40) (v := ?v40z) rfl (by kernel_rfl) (by kernel_rfl) (by kernel_rfl) (fun _ _ _ h => h) (by rfl) ?h40z (by assumption) ?_
    case h40z => intro w hSw; go_simp <;> with_reducible rfl
    simp only [Act.put, List.setIfInBounds_toArray, List.set_cons_zero, List.set_cons_succ]
    refine wpAnyH_takeL (i := 41) (v := ?v41z) rfl (by kernel_rfl) (by kernel_rfl) (by kernel_rfl) (fun _ _ _ h => h) (by rfl) ?h41z (by assumption) ?_
    case h41z => intro w hSw; go_simp <;> with_reducible rfl
    simp only [Act.put, List.setIfInBounds_toArray, List.set_cons_zero, List.set_cons_succ]
    refine wpAnyH_done (by kernel_rfl) ?_ _
    refine NoPanic.normal ?_
    have hP9 := (hP7.below (below_of_drew hb8)).below hb9
    clear hS7 hS8 hS9 hX8 hX9 hb8 hb9 hP7
    go_wp2
    go_roundw
    case rel => exact ⟨k + 1, bs ++ xs, v5, by omega, by omega, by go_num, trivial, by rw [List.length_append]; omega, hlo5, hP9⟩
    case measure => simp [intOf]; omega

set_option maxRecDepth 100000 in
theorem lifted (os : Os) (started : os.Started) (H : Type) (enc : TypeId × Value → H) :
    ReturnsInHanded {} Tryd.checked os 4 .any (fun w args => (Rows.hashPiecesSpec.pre enc Tryd.prog Tryd.f4 [] false w args ∧ laidMetH Tryd.prog S9.laid1 w) ∧ sizedMet enc Tryd.prog Tryd.f4 (OpenSpec.ofChange Rows.hashPiecesSpec) false w args) (Rows.hashPiecesSpec.post enc Tryd.prog Tryd.f4 false true false false) := by
  refine returnsInHanded_of_change_and (C := Tryd.checked) (X := fun w _ => laidMetH Tryd.prog S9.laid1 w) (fun _ _ _ hh h => h.of_heap hh) own started (by kernel_rfl) Tryd.func4
    (ChangeSpec.witness_shaped (enc := enc) (C := Tryd.checked) (os := os) (X := fun w _ => laidMetH Tryd.prog S9.laid1 w) false (World.doorLaid Tryd.prog 400 os) #[.int .i64 0, .slice none 0 0] 8 rfl (World.shaped_of_RefB (by kernel_rfl) (by kernel_rfl)) (by kernel_rfl) (by kernel_rfl) (by kernel_rfl) (S9.door_met os _)) ?_
  intro W base args ds gs before hval0 hW _ _ hLd _
  have hval : ∀ (j : Nat) t v, Tryd.f4.params[j]? = some t → args[j]? = some v → Value.okWide Tryd.prog W .any base t v := hval0
  have hW' := hW
  obtain ⟨p, q, hA0, hV, rfl, hfz, hnd⟩ := hW
  have hA : DataW.TrodAll enc Tryd.prog W 0 (fun _ => true) true Tryd.f4.params.toList args.toList ds p := hA0
  rw [Tryd.params4] at hA hval
  obtain ⟨v0, vs0, d0, ds0, p0, q0, hargs, rfl, rfl, h0, r0⟩ := trodAll_cons hA
  obtain ⟨v1, vs1, d1, ds1, p1, q1, rfl, rfl, rfl, h1, r1⟩ := trodAll_cons r0
  obtain ⟨rfl, rfl, rfl⟩ := trodAll_nil r1
  obtain rfl : args = #[v0, v1] := by cases args; simp_all
  obtain ⟨rfl, rfl⟩ := trodVars_none hV
  obtain ⟨a0, rfl, rfl, rfl, w0⟩ := open_int Tryd.underlying3 (hval 0 3 v0 rfl rfl) h0
  obtain ⟨a1, len1, cap1, rfl⟩ := okWide_slice Tryd.underlying30 (hval 1 30 v1 rfl rfl)
  have k1 := h1
  have lt1 : ∀ x ∈ p1, x.block < W.heap.size := by obtain ⟨m, hm⟩ := k1; exact DataW.trod_lt m _ _ _ hm
  obtain ⟨hl1, hpcs⟩ := S9.pieces_open h1
  clear hA0 hval0
  refine (walk a0 a1 len1 cap1 W w0 hl1 hpcs (S9.of_laid hLd)).mono fun e W' ⟨he, bel⟩ => ?_
  subst he
  exact ⟨_, rfl, _, _, _, [], _, [], hW', trodAll_mk1 (shut_bool Tryd.underlying4 _), (trodAll_cons_mk (shut_int Tryd.underlying3 w0) (trodAll_cons_mk (Below.trod laidOut (by kernel_rfl) (of_decide_eq_true (by kernel_rfl)) k1 bel lt1) trodAll_mk0)), rfl, bel.frame _, fun h => by cases h⟩

theorem over : Rows.hashPiecesRow.holds Tryd.pinned (OpenSpec.ofChange Rows.hashPiecesSpec) :=
  OpenClaim.holds_of_wide 4 Tryd.f4 rfl rfl rfl rfl rfl rfl rfl ⟨rfl, rfl, rfl, rfl, rfl⟩ rfl rfl rfl rfl rfl (by kernel_rfl) Tryd.func4 (by kernel_rfl)
    (of_decide_eq_true (by kernel_rfl)) (by unfold Func.isWrapper; first | (rw [if_pos (by decide +kernel)]; kernel_rfl) | (rw [if_neg (by decide +kernel)]; exact ⟨rfl, rfl⟩))
    (fun os started H enc _ => lifted os started H enc)

end Go.Proofs.YtmbaenodibfedaaDoor.hashPieces
namespace Go.Proofs.YtmbaenodibfedaaDoor
/-- The given statement. -/
theorem hashPieces_proved : Rows.HashPiecesCardSaid :=
  Claim7.holds_tied_plain_at .later [] [.data, .data] true (true, "acf3b126d85603c7875b7185765e22b2556293ded4c5da733af97786718a27d3") false
    hashPieces.over (fun _ h => by cases h) (by kernel_rfl) (fun _ h => by cases h) hashPieces_row_tie rfl ⟨rfl, rfl⟩ (by kernel_rfl) rfl
    (fun f fn hf hfn => by
      obtain rfl : f = 4 := Option.some.inj ((show Tryd.prog.funcNamed "affiant/affiantlaw09.HashPieces" = some 4 by kernel_rfl).symm.trans hf) |>.symm
      obtain rfl : fn = Tryd.f4 := (Option.some.inj (Tryd.func4.symm.trans hfn)).symm
      exact ⟨by kernel_rfl, fun j t ht => by
        rw [Tryd.params4] at ht
        have hm : t ∈ ([3,30] : List TypeId) := by simpa using Array.mem_of_getElem? ht
        have hall : (([3,30] : List TypeId).all fun u => !Tryd.prog.wantsStandIn u) = true := by kernel_rfl
        exact (show Tryd.prog.wantsStandIn t = false by simpa using List.all_eq_true.1 hall t hm)⟩)
    (by kernel_rfl)
end Go.Proofs.YtmbaenodibfedaaDoor
