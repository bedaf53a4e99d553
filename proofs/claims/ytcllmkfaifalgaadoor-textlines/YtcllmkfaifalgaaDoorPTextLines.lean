/-
  Proved: for every byte slice b the law TextLines returns true, and b reads as before. No conditions of ours; the packages' variables start as their initialisers lay them, as the given card ties them.
-/
import Derived.Test.YtcllmkfaifalgaaDoorRows
import Derived.Test.YtcllmkfaifalgaaDoorCards
import Derived.Test.YtcllmkfaifalgaaDoorTie
import Derived.SevenTiedAt
import Derived.Test.YtcllmkfaifalgaaDoorTxW
import Derived.Test.YtcllmkfaifalgaaDoorTxP
import Derived.WalkKit
import Derived.ProofKit
import Derived.OpenShut
import Derived.ShutString
import Derived.ChangeOld
import Derived.Below
namespace Go.Proofs.YtcllmkfaifalgaaDoor.textLines
open Go.ChangeShapes Go.WideShapes Go.ChangeAt Go.RowKit
open Go.ChangeMaps (open_string shut_string)
set_option linter.unusedVariables false

theorem own : ownKnob Tryd.prog.godebug = none := by kernel_rfl
theorem laidOut : laidOutB Tryd.prog = true := by kernel_rfl

open T in
set_option maxRecDepth 10000 in
set_option maxHeartbeats 4000000 in
/-- The walk: the law returns true and writes nothing that was there. -/
theorem walk (a0 : Option Addr) (len0 cap0 : Nat) (z0 : List Int) (w : World) (w0 : IsRow .u8 w a0 len0 cap0 z0) :
    Calls Tryd.prog 3 #[.slice a0 len0 cap0] w fun e w' => e = .returned (.bool true) ∧ Below w.heap.size w w' := by
  obtain ⟨xs, hs, hlen, hbx⟩ := isrow w0
  clear w0
  have hml := hs.len
  rw [U_length, hlen] at hml
  have hmx : (len0 : Int) ≤ 9223372036854775807 := by unfold maxLen at hml; omega
  by_cases hlong : 300 < len0
  · have hl' : (300 : Int) < (len0 : Int) := by omega
    go_enter Tryd.func3, Tryd.ntmps3
    go_wp2_with fail
    refine (alive_true _).mono ?_
    rintro e w' ⟨rfl, hb⟩
    go_wp2
    go_ret
    exact ⟨rfl, hb⟩
  have hl' : ¬ (300 : Int) < (len0 : Int) := by omega
  have hxl : xs.length ≤ 1000 := by omega
  have hx3 : xs.length ≤ 300 := by omega
  have hA : Below w.heap.size w (w.alloc (.cells #[] 5)) := (Below.refl _ _).alloc (Nat.le_refl _) _
  have hsA := hs.below hA
  have hoA := own_empty w w.heap.size 5 (Nat.le_refl _)
  go_enter Tryd.func3, Tryd.ntmps3
  go_wp2_with (at_builtin; refine wpList_append_sl rfl (.tmp 12) (.tmp 13) 22 rfl w.heap.size 5 _ 1 Tryd.underlying22 inf8 rfl _ 0 [] rfl hoA _ (U xs) rfl hsA (U_one _) (by rw [U_length]; unfold maxLen; omega) (by rw [U_length]; omega) (by simp) ?_)
  intro v0 w1 ho1 hg1
  have hL : Below w.heap.size w w1 := hA.grown hg1 hA.size (fun k hk => (hoA.lt k hk).1)
  have ho1 : w1.ownsRow w.heap.size 5 1 v0 len0 (U xs) := by simpa [U_length, hlen] using ho1
  have hO := SlV.ofOwn ho1
  replace hs := hs.below hL
  clear hg1 hoA hsA hA ho1
  have hO1 := Away.mk hO
  have hs1 := Away.mk hs
  go_wp2_with fail
  refine (lines_any _ xs _ hO hbx hxl).mono ?_
  rintro e w2 ⟨vl, vs, rfl, hol, hls, hb⟩
  replace hO := hO.below hb
  replace hs := hs.below hb
  have hE := Away.mk hb
  have hS := SlV.ofOwn hol
  have hR := Lr.ofLs hls
  have hOL := Away.mk hol
  have hLS := Away.mk hls
  have hB := Below.refl w2.heap.size w2
  have hlb := lines_byt hbx
  have hlsh := lines_short xs
  have hlf := lines_few xs
  clear hb hol hls
  go_wp2
  replace hO := hO.below (bel_drew (Below.refl _ _))
  replace hs := hs.below (bel_drew (Below.refl _ _))
  replace hS := hS.below (bel_drew (Below.refl _ _))
  replace hR := hR.below (bel_drew (Below.refl _ _))
  replace hB := bel_drew hB
  refine wp_region_below (by kernel_rfl) (fun hHeld => ?_)
  refine wpAnyH_takeL (i := 0) (v := ?v0) rfl (by kernel_rfl) (by kernel_rfl) (by kernel_rfl) (fun _ _ _ h => h) (by rfl) ?h0 (by assumption) ?_
  case h0 => intro w' hSw; go_simp <;> with_reducible rfl
  simp only [Act.put, List.setIfInBounds_toArray, List.set_cons_zero, List.set_cons_succ]
  refine wpAnyH_takeL (i := 1) (v := ?v1) rfl (by kernel_rfl) (by kernel_rfl) (by kernel_rfl) (fun _ _ _ h => h) (by rfl) ?h1 (by assumption) ?_
  case h1 => intro w' hSw; go_simp <;> with_reducible rfl
  simp only [Act.put, List.setIfInBounds_toArray, List.set_cons_zero, List.set_cons_succ]
  refine allReadyH_oneL (i := 2) (by kernel_rfl) rfl (by rfl) (fun K hK => ?_)
  go_simp
  refine (reflines_any _ xs _ hs hbx hxl).mono ?_
  rintro _ wn ⟨v1, vs1, rfl, ho, hl, hb⟩
  replace hO := hO.below hb
  replace hs := hs.below hb
  replace hS := hS.below hb
  replace hR := hR.below hb
  have h1 := SlV.ofOwn ho
  have r1 := Lr.ofLs hl
  replace hB := hB.trans (hb.mono hB.size)
  refine hK.out _ _ hb (fun _ => ?_)
  refine wpAnyH_later hb (fun hHeld => ?_)
  clear hK hb
  clear K
  refine allReadyH_oneL (i := 3) (by kernel_rfl) rfl (by rfl) (fun K hK => ?_)
  go_simp
  refine (same_self _ _ vs vs1 (lines xs) _ hS h1 hR r1 hlb).mono ?_
  rintro _ wn ⟨rfl, hb⟩
  replace hO := hO.below hb
  replace hs := hs.below hb
  replace hS := hS.below hb
  replace hR := hR.below hb
  replace h1 := h1.below hb
  replace r1 := r1.below hb
  replace hB := hB.trans (hb.mono hB.size)
  refine hK.out _ _ hb (fun _ => ?_)
  refine wpAnyH_later hb (fun hHeld => ?_)
  clear hK hb
  clear K
  refine wpAnyH_takeL (i := 4) (v := .bool true) rfl (by kernel_rfl) (by kernel_rfl) (by kernel_rfl) (fun _ _ _ h => h) (by rfl) ?h4 (by assumption) ?_
  case h4 => intro w' hSw; go_simp
  simp only [Act.put, List.setIfInBounds_toArray, List.set_cons_zero, List.set_cons_succ]
  refine wpAnyH_takeL (i := 5) (v := ?v5) rfl (by kernel_rfl) (by kernel_rfl) (by kernel_rfl) (fun _ _ _ h => h) (by rfl) ?h5 (by assumption) ?_
  case h5 => intro w' hSw; go_simp <;> with_reducible rfl
  simp only [Act.put, List.setIfInBounds_toArray, List.set_cons_zero, List.set_cons_succ]
  refine wpAnyH_takeL (i := 8) (v := ?v8) rfl (by kernel_rfl) (by kernel_rfl) (by kernel_rfl) (fun _ _ _ h => h) (by rfl) ?h8 (by assumption) ?_
  case h8 => intro w' hSw; go_simp <;> with_reducible rfl
  simp only [Act.put, List.setIfInBounds_toArray, List.set_cons_zero, List.set_cons_succ]
  refine allReadyH_oneL (i := 6) (by kernel_rfl) rfl (by rfl) (fun K hK => ?_)
  go_simp
  refine (trim_any _ xs _ hO hbx (by omega)).mono ?_
  rintro _ wn ⟨v3, rfl, ho, hb⟩
  replace hO := hO.below hb
  replace hs := hs.below hb
  replace hS := hS.below hb
  replace hR := hR.below hb
  replace h1 := h1.below hb
  replace r1 := r1.below hb
  have h3 := SlV.ofOwn ho
  replace hB := hB.trans (hb.mono hB.size)
  refine hK.out _ _ hb (fun _ => ?_)
  refine wpAnyH_later hb (fun hHeld => ?_)
  clear hK hb
  clear K
  refine wpAnyH_takeL (i := 7) (v := .string (strOfNums (trim xs))) rfl (by kernel_rfl) (by kernel_rfl) (by kernel_rfl) (fun _ _ _ h => h) (by rfl) ?h7 (by assumption) ?_
  case h7 => intro w' hSw; have hk := run_str _ (h3.below hSw); go_simp
  simp only [Act.put, List.setIfInBounds_toArray, List.set_cons_zero, List.set_cons_succ]
  refine allReadyH_oneL (i := 9) (by kernel_rfl) rfl (by rfl) (fun K hK => ?_)
  go_simp
  refine (reftrim_any _ xs _ hs hbx (by omega)).mono ?_
  rintro _ wn ⟨v4, rfl, ho, hb⟩
  replace hO := hO.below hb
  replace hs := hs.below hb
  replace hS := hS.below hb
  replace hR := hR.below hb
  replace h1 := h1.below hb
  replace r1 := r1.below hb
  replace h3 := h3.below hb
  have h4 := SlV.ofOwn ho
  replace hB := hB.trans (hb.mono hB.size)
  refine hK.out _ _ hb (fun _ => ?_)
  refine wpAnyH_later hb (fun hHeld => ?_)
  clear hK hb
  clear K
  refine wpAnyH_takeL (i := 10) (v := .string (strOfNums (trim xs))) rfl (by kernel_rfl) (by kernel_rfl) (by kernel_rfl) (fun _ _ _ h => h) (by rfl) ?h10 (by assumption) ?_
  case h10 => intro w' hSw; have hk := run_str _ (h4.below hSw); go_simp
  simp only [Act.put, List.setIfInBounds_toArray, List.set_cons_zero, List.set_cons_succ]
  refine wpAnyH_takeL (i := 11) (v := .bool true) rfl (by kernel_rfl) (by kernel_rfl) (by kernel_rfl) (fun _ _ _ h => h) (by rfl) ?h11 (by assumption) ?_
  case h11 => intro w' hSw; go_simp
  simp only [Act.put, List.setIfInBounds_toArray, List.set_cons_zero, List.set_cons_succ]
  refine wpAnyH_takeL (i := 12) (v := .bool true) rfl (by kernel_rfl) (by kernel_rfl) (by kernel_rfl) (fun _ _ _ h => h) (by rfl) ?h12 (by assumption) ?_
  case h12 => intro w' hSw; go_simp
  simp only [Act.put, List.setIfInBounds_toArray, List.set_cons_zero, List.set_cons_succ]
  refine wpAnyH_takeL (i := 13) (v := ?v13) rfl (by kernel_rfl) (by kernel_rfl) (by kernel_rfl) (fun _ _ _ h => h) (by rfl) ?h13 (by assumption) ?_
  case h13 => intro w' hSw; go_simp <;> with_reducible rfl
  simp only [Act.put, List.setIfInBounds_toArray, List.set_cons_zero, List.set_cons_succ]
  refine wpAnyH_done (by kernel_rfl) ?_ _
  refine NoPanic.normal ?_
  have hOL5 := own_later hB hOL.out
  have hLW5 : Lw wn w1.heap.size vs (lines xs) := Lw.ofLs (Ls.imp (fun u l h => own_later hB h) hLS.out)
  replace hE : Below w1.heap.size w1 wn := hE.out.trans (hB.mono hE.out.size)
  have hvl := hR.length
  clear h1 r1 h3 h4 hO hs hR hB hOL hLS
  generalize lines xs = ls at *
  obtain ⟨N, hN⟩ : ∃ N, ls.length = N := ⟨_, rfl⟩
  obtain ⟨al, cl, rfl, p1, p2⟩ := shp hS (hvl.trans hN)
  clear hS
  rw [hN] at hOL5
  have hNl : N ≤ 301 := by omega
  go_wp2
  go_loopw [6] (fun i wr => ∃ j : Nat, j ≤ N ∧ i = .int .i64 j ∧ Below w1.heap.size w1 wr ∧ wr.ownsRow w1.heap.size 22 1 (.slice al N cl) N vs ∧ Lw wr w1.heap.size vs ls) (fun i _ => N - (intOf i).toNat)
  case atStart => exact ⟨0, by omega, rfl, hE, hOL5, hLW5⟩
  case round =>
    obtain ⟨j, hj, rfl, hE, hO, hW⟩ := hrel
    by_cases hjl : j = N
    · subst hjl
      have hO1' := hO1.out.below hE
      have hs1' := hs1.out.below hE
      have hLn := hL.trans (hE.mono hL.size)
      go_wp2_with fail
      refine (alive_true _).mono ?_
      rintro e w6 ⟨rfl, hb⟩
      have k1 := run_str _ (hO1'.below hb)
      have k2 := run_str _ (hs1'.below hb)
      have hz := hLn.trans (hb.mono hLn.size)
      clear hO1' hs1'
      go_wp2
      go_ret
      exact ⟨rfl, hz⟩
    · have hj1 : j < ls.length := by omega
      obtain ⟨u, zs, gu, hu⟩ := hW.get j hj1
      have hM3 := hlsh _ (List.getElem_mem hj1)
      obtain ⟨M, hM⟩ : ∃ M, ls[j].length = M := ⟨_, rfl⟩
      rw [hM] at hu hM3
      obtain ⟨au, cu, hus, u1, u2⟩ := shp (SlV.ofOwn hu) (n := M) (by have := hu.1; omega)
      subst hus
      obtain ⟨b1, o1, rfl, _, f1⟩ := (SlV.ofOwn hO).cells (by omega)
      have HGU := Away.mk gu
      clear f1 hu gu
      go_wp2
      go_loopw [7] (fun i wr => ∃ m : Nat, m ≤ M ∧ i = .int .i64 m ∧ Below w1.heap.size w1 wr ∧ wr.ownsRow w1.heap.size 22 1 (.slice (some ⟨b1, o1, none⟩) N cl) N vs ∧ Lw wr w1.heap.size vs ls) (fun i _ => M - (intOf i).toNat)
      case atStart => exact ⟨0, by omega, rfl, hE, hO, hW⟩
      clear hE hO hW
      case round =>
        obtain ⟨m, hm, rfl, hE, hO, hW⟩ := hrel
        have d1 := (SlV.ofOwn hO).cellAt HGU.out
        by_cases hmM : m = M
        · subst hmM
          go_wp2
          go_roundw
          case rel => exact ⟨j + 1, by omega, by go_num, hE, hO, hW⟩
          case measure => simp [intOf]; omega
        · obtain ⟨u', zs', gu', hu'⟩ := hW.get j hj1
          obtain rfl : u' = .slice au M cu := by have h1 := HGU.out; rw [h1] at gu'; exact (Option.some.inj gu').symm
          rw [hM] at hu'
          obtain ⟨g, cap, cur, x, hv, q1, q2, hg, hh, hc, hf⟩ := own_at hu' (i := m) (by omega)
          obtain ⟨rfl, rfl⟩ : au = some ⟨g, 0, none⟩ ∧ cu = cap := by injection hv with h1 _ h2; exact ⟨h1, h2⟩
          have hE2 := hE.setCell (p := ⟨g, m, none⟩) hg (.int .u8 51)
          have hO2 := own_set_ne (i := m) (u := .int .u8 51) hO hh (by decide)
          have hW2 := hW.set g m (.int .u8 51)
          clear hE hO hW hu' gu' hv hh
          go_wp2
          go_roundw
          case rel => exact ⟨m + 1, by omega, by go_num, hE2, hO2, hW2⟩
          case measure => simp [intOf]; omega

set_option maxRecDepth 100000 in
theorem lifted (os : Os) (started : os.Started) (H : Type) (enc : TypeId × Value → H) :
    ReturnsInHanded {} Tryd.checked os 3 .any (fun w args => (Rows.textLinesSpec.pre enc Tryd.prog Tryd.f3 [] false w args ∧ laidMetH Tryd.prog T.laid1 w) ∧ sizedMet enc Tryd.prog Tryd.f3 (OpenSpec.ofChange Rows.textLinesSpec) false w args) (Rows.textLinesSpec.post enc Tryd.prog Tryd.f3 false true false false) := by
  refine returnsInHanded_of_change_and (C := Tryd.checked) (X := fun w _ => laidMetH Tryd.prog T.laid1 w) (fun _ _ _ hh h => h.of_heap hh) own started (by kernel_rfl) Tryd.func3
    (ChangeSpec.witness_shaped (enc := enc) (C := Tryd.checked) (os := os) (X := fun w _ => laidMetH Tryd.prog T.laid1 w) false (World.laidAll Tryd.prog os T.laid1) #[.slice none 0 0] 8 (World.laidAll_os _ _ _) (World.shaped_of_ZipB (by kernel_rfl) (by kernel_rfl)) (by kernel_rfl) (by kernel_rfl) (by kernel_rfl) (T.laid_met os _)) ?_
  intro W base args ds gs before hval0 hW _ _ hLd _
  have hval : ∀ (j : Nat) t v, Tryd.f3.params[j]? = some t → args[j]? = some v → Value.okWide Tryd.prog W .any base t v := hval0
  have hW' := hW
  obtain ⟨p, q, hA0, hV, rfl, hfz, hnd⟩ := hW
  have hA : DataW.TrodAll enc Tryd.prog W 0 (fun _ => true) true Tryd.f3.params.toList args.toList ds p := hA0
  rw [Tryd.params3] at hA hval
  obtain ⟨v0, vs0, d0, ds0, p0, q0, hargs, rfl, rfl, h0, r0⟩ := trodAll_cons hA
  obtain ⟨rfl, rfl, rfl⟩ := trodAll_nil r0
  obtain rfl : args = #[v0] := by cases args; simp_all
  obtain ⟨rfl, rfl⟩ := trodVars_none hV
  obtain ⟨a0, len0, cap0, rfl⟩ := okWide_slice Tryd.underlying22 (hval 0 22 v0 rfl rfl)
  have k0 := h0
  have lt0 : ∀ x ∈ p0, x.block < W.heap.size := by obtain ⟨m, hm⟩ := k0; exact DataW.trod_lt m _ _ _ hm
  obtain ⟨z0, w0⟩ : ∃ zs, IsRow .u8 W a0 len0 cap0 zs := by
    obtain ⟨fuel, hf⟩ := h0
    rcases open_ints Tryd.underlying22 Tryd.underlying5 (by kernel_rfl) hf with ⟨hcs, _⟩ | ⟨x, l, c, zs, hcs, _, hl, hm, hz, _, hcell, hwz⟩
    · simp [Value.cells] at hcs
      obtain ⟨rfl, rfl, rfl⟩ := hcs
      exact ⟨[], .inl ⟨rfl, rfl, rfl, rfl⟩⟩
    · simp [Value.cells] at hcs
      obtain ⟨rfl, rfl, rfl⟩ := hcs
      exact ⟨zs, .inr ⟨_, rfl, hl, hm, by simpa using hz, hcell, hwz⟩⟩
  clear hA0 hval0
  refine (walk a0 len0 cap0 z0 W w0).mono fun e W' ⟨he, bel⟩ => ?_
  subst he
  exact ⟨_, rfl, _, _, _, [], _, [], hW', trodAll_mk1 (shut_bool Tryd.underlying4 _), (trodAll_cons_mk (Below.trod laidOut (by kernel_rfl) (of_decide_eq_true (by kernel_rfl)) k0 bel lt0) trodAll_mk0), rfl, bel.frame _, fun h => by cases h⟩

theorem over : Rows.textLinesRow.holds Tryd.pinned (OpenSpec.ofChange Rows.textLinesSpec) :=
  OpenClaim.holds_of_wide 3 Tryd.f3 rfl rfl rfl rfl rfl rfl rfl ⟨rfl, rfl, rfl, rfl, rfl⟩ rfl rfl rfl rfl rfl (by kernel_rfl) Tryd.func3 (by kernel_rfl)
    (of_decide_eq_true (by kernel_rfl)) (by unfold Func.isWrapper; first | (rw [if_pos (by decide +kernel)]; kernel_rfl) | (rw [if_neg (by decide +kernel)]; exact ⟨rfl, rfl⟩))
    (fun os started H enc _ => lifted os started H enc)

end Go.Proofs.YtcllmkfaifalgaaDoor.textLines
namespace Go.Proofs.YtcllmkfaifalgaaDoor
/-- The given statement. -/
theorem textLines_proved : Rows.TextLinesCardSaid :=
  Claim7.holds_tied_plain_at .later [] [.data, .pinned] true (true, "4c7015fd4d7d1341bd0d4dc2c40d8b994845262db2060e7f52ae95cdd162ef0f") false
    textLines.over (fun _ h => by cases h) (by kernel_rfl) (fun _ h => by cases h) textLines_row_tie rfl ⟨rfl, rfl⟩ (by kernel_rfl) rfl
    (fun f fn hf hfn => by
      obtain rfl : f = 3 := Option.some.inj ((show Tryd.prog.funcNamed "affiant/affiantlaw15.TextLines" = some 3 by kernel_rfl).symm.trans hf) |>.symm
      obtain rfl : fn = Tryd.f3 := (Option.some.inj (Tryd.func3.symm.trans hfn)).symm
      exact ⟨by kernel_rfl, fun j t ht => by
        rw [Tryd.params3] at ht
        have hm : t ∈ ([22] : List TypeId) := by simpa using Array.mem_of_getElem? ht
        have hall : (([22] : List TypeId).all fun u => !Tryd.prog.wantsStandIn u) = true := by kernel_rfl
        exact (show Tryd.prog.wantsStandIn t = false by simpa using List.all_eq_true.1 hall t hm)⟩)
    (by kernel_rfl)
end Go.Proofs.YtcllmkfaifalgaaDoor
