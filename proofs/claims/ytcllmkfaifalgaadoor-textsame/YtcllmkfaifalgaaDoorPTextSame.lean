/-
  Proved: for every byte slice b the law TextSame returns true, and b reads as before. No conditions of ours; the packages' variables start as their initialisers lay them, as the given card ties them.
-/
import Derived.Test.YtcllmkfaifalgaaDoorRows
import Derived.Test.YtcllmkfaifalgaaDoorCards
import Derived.Test.YtcllmkfaifalgaaDoorTie
import Derived.SevenTiedAt
import Derived.Test.YtcllmkfaifalgaaDoorTxW
import Derived.Test.YtcllmkfaifalgaaDoorTxN
import Derived.WalkKit
import Derived.ProofKit
import Derived.OpenShut
import Derived.ShutString
import Derived.ChangeOld
import Derived.Below
namespace Go.Proofs.YtcllmkfaifalgaaDoor.textSame
open Go.ChangeShapes Go.WideShapes Go.ChangeAt Go.RowKit
open Go.ChangeMaps (open_string shut_string)
set_option linter.unusedVariables false

theorem own : ownKnob Tryd.prog.godebug = none := by kernel_rfl
theorem laidOut : laidOutB Tryd.prog = true := by kernel_rfl

open T in
set_option maxRecDepth 10000 in
set_option maxHeartbeats 4000000 in
/-- The walk: the law returns true and writes nothing that was there. -/
theorem walk (a0 : Option Addr) (len0 cap0 : Nat) (z0 : List Int) (w : World) (w0 : IsRow .u8 w a0 len0 cap0 z0) :
    Calls Tryd.prog 6 #[.slice a0 len0 cap0] w fun e w' => e = .returned (.bool true) ∧ Below w.heap.size w w' := by
  obtain ⟨xs, hs, hlen, hbx⟩ := isrow w0
  clear w0
  have hml := hs.len
  rw [U_length, hlen] at hml
  have hmx : (len0 : Int) ≤ 9223372036854775807 := by unfold maxLen at hml; omega
  by_cases hlong : 300 < len0
  · have hl' : (300 : Int) < (len0 : Int) := by omega
    go_enter Tryd.func6, Tryd.ntmps6
    go_wp2_with fail
    refine (alive_true _).mono ?_
    rintro e w' ⟨rfl, hb⟩
    go_wp2
    go_ret
    exact ⟨rfl, hb⟩
  have hl' : ¬ (300 : Int) < (len0 : Int) := by omega
  have hxl : xs.length ≤ 1000 := by omega
  have con1 := lines_any _ xs w hs hbx hxl
  go_enter Tryd.func6, Tryd.ntmps6
  go_wp2_with fail
  refine con1.mono ?_
  rintro e w1 ⟨v1, vs, rfl, ho1, hl1, hb1⟩
  clear con1
  have hs1 := hs.below hb1
  have hS1 := SlV.ofOwn ho1
  have hR1 := Lr.ofLs hl1
  clear ho1 hl1 hs
  obtain ⟨ls, hls⟩ : ∃ ls, lines xs = ls := ⟨_, rfl⟩
  have hlc := lines_count xs
  have hno := lines_no10 xs
  have hlb := lines_byt hbx
  have hlsh := lines_short xs
  rw [hls] at hR1 hlc hno hlb hlsh
  have HLS := Away.mk hls
  clear hls
  have hNe := hR1.length
  obtain ⟨N, hN⟩ : ∃ N, ls.length = N := ⟨_, rfl⟩
  obtain ⟨a1, c1, rfl, p1, p2⟩ := shp hS1 (hNe.trans hN)
  have hNl : N ≤ 1001 := by have := List.count_le_length (a := (10 : Int)) (l := xs); omega
  have HLC := Away.mk hlc
  clear hlc hNe
  have hcs := hs1
  go_wp2
  go_loopw [4, 5] (fun n i wr => ∃ k : Nat, k ≤ len0 ∧ i = .int .i64 k ∧ n = .int .i64 (((xs.take k).count 10 : Nat) + 1) ∧ w1 = wr) (fun _ i _ => len0 - (intOf i).toNat)
  case atStart => exact ⟨0, by omega, rfl, by simp, rfl⟩
  case round =>
    obtain ⟨k, hk, rfl, rfl, rfl⟩ := hrel
    have hct : (xs.take k).count 10 ≤ k := by
      have h1 := List.count_le_length (a := (10 : Int)) (l := xs.take k)
      have h2 := List.length_take_le k xs
      omega
    by_cases hkl : k = len0
    · subst hkl
      have hcx : (xs.take k).count 10 = xs.count 10 := by rw [List.take_of_length_le (by omega)]
      have hcN : xs.count 10 + 1 = N := by rw [← hN]; exact HLC.out.symm
      rw [hcx] at hct ⊢
      generalize xs.count 10 = cn at *
      subst hcN
      clear hcx
      go_wp2
      go_loopw [6] (fun i wr => ∃ j : Nat, j ≤ cn + 1 ∧ i = .int .i64 j ∧ w1 = wr) (fun i _ => cn + 1 - (intOf i).toNat)
      case atStart => exact ⟨0, by omega, rfl, rfl⟩
      case round =>
        obtain ⟨j, hj, rfl, rfl⟩ := hrel
        by_cases hjl : j = cn + 1
        · subst hjl
          go_wp2_with fail
          refine (alive_true _).mono ?_
          rintro e w2 ⟨rfl, hb2⟩
          have hs2 := hs1.below hb2
          have hS2 := hS1.below hb2
          have hR2 := hR1.below hb2
          have hb2 := hb1.trans (hb2.mono hb1.size)
          have con2 := canon_any _ xs w2 hs2 hbx hxl
          go_wp2_with fail
          refine con2.mono ?_
          rintro e w3 ⟨v3, rfl, ho3, hb3⟩
          clear con2
          have hS3 := hS2.below hb3
          have hR3 := hR2.below hb3
          have hb3 := hb2.trans (hb3.mono hb2.size)
          have con3 := lines_any _ (canon xs) w3 (SlV.ofOwn ho3) (canon_byt hbx) (by have := canon_length xs; omega)
          rw [lines_canon, HLS.out] at con3
          go_wp2_with fail
          refine con3.mono ?_
          rintro e w4 ⟨v4, vs4, rfl, ho4, hl4, hb4⟩
          have hS4 := hS3.below hb4
          have hR4 := hR3.below hb4
          have hb4 := hb3.trans (hb4.mono hb3.size)
          have con4 := same_any _ _ _ _ ls ls w4 (SlV.ofOwn ho4) hS4 (Lr.ofLs hl4) hR4 hlb hlb
          rw [decide_eq_true rfl] at con4
          go_wp2_with fail
          refine con4.mono ?_
          rintro e w5 ⟨rfl, hb5⟩
          go_wp2
          go_ret
          exact ⟨rfl, hb4.trans (hb5.mono hb4.size)⟩
        · have hj1 : j < ls.length := by omega
          obtain ⟨u, gu, su⟩ := hR1.get j hj1
          obtain ⟨b1, o1, rfl, _, f1⟩ := hS1.cells (by have := hR1.length; omega)
          have d1 := f1 j u gu
          have hno' := hno _ (List.getElem_mem hj1)
          have hM' := hlsh _ (List.getElem_mem hj1)
          have hbj := hlb _ (List.getElem_mem hj1)
          clear f1
          generalize ls[j] = y at *
          obtain ⟨M, hM⟩ : ∃ M, y.length = M := ⟨_, rfl⟩
          obtain ⟨ua, uc, rfl, _, _⟩ := su.shapeU hM
          have hM2 : M ≤ 300 := by omega
          go_wp2
          go_loopw [7] (fun i wr => ∃ m : Nat, m ≤ M ∧ i = .int .i64 m ∧ w1 = wr) (fun i _ => M - (intOf i).toNat)
          case atStart => exact ⟨0, by omega, rfl, rfl⟩
          case round =>
            obtain ⟨m, hm, rfl, rfl⟩ := hrel
            by_cases hmM : m = M
            · subst hmM
              go_wp2
              go_roundw
              case rel => exact ⟨j + 1, by omega, by go_num, trivial⟩
              case measure => simp [intOf]; omega
            · obtain ⟨x, hx⟩ : ∃ x, y[m]'(by omega) = x := ⟨_, rfl⟩
              obtain ⟨b2, o2, rfl, _, f2⟩ := su.cells (by rw [U_length]; omega)
              have hc := f2 m (.int .u8 x) (by rw [U_get y m (by omega), hx])
              have hxm : x ∈ y := by rw [← hx]; exact List.getElem_mem _
              have hxb := hbj x hxm
              have hx10 : ¬ x = 10 := fun e => hno' (by rw [← e]; exact hxm)
              clear f2 hx hxm
              go_wp2
              go_roundw
              case rel => exact ⟨m + 1, by omega, by go_num, trivial⟩
              case measure => simp [intOf]; omega
    · have hk1 : k < len0 := by omega
      obtain ⟨x, hx⟩ : ∃ x, xs[k]'(by omega) = x := ⟨_, rfl⟩
      obtain ⟨b, off, rfl, _, hcell⟩ := hcs.cells (by rw [U_length]; omega)
      have hc := hcell k (.int .u8 x) (by rw [U_get xs k (by omega), hx])
      have hts : xs.take (k + 1) = xs.take k ++ [x] := by rw [take_snoc (by omega), hx]
      have hxb := hbx x (by rw [← hx]; exact List.getElem_mem _)
      clear hcell
      have HT := Away.mk hts
      clear hts hx
      by_cases hx10 : x = 10
      · subst hx10
        go_wp2
        go_roundw
        case rel => exact ⟨k + 1, by omega, by go_num, by rw [HT.out, List.count_append]; simp, trivial⟩
        case measure => simp [intOf]; omega
      · have HX := Away.mk hx10
        go_wp2
        go_roundw
        case rel => exact ⟨k + 1, by omega, by go_num, by rw [HT.out, List.count_append]; simp [HX.out], trivial⟩
        case measure => simp [intOf]; omega

set_option maxRecDepth 100000 in
theorem lifted (os : Os) (started : os.Started) (H : Type) (enc : TypeId × Value → H) :
    ReturnsInHanded {} Tryd.checked os 6 .any (fun w args => (Rows.textSameSpec.pre enc Tryd.prog Tryd.f6 [] false w args ∧ laidMetH Tryd.prog T.laid1 w) ∧ sizedMet enc Tryd.prog Tryd.f6 (OpenSpec.ofChange Rows.textSameSpec) false w args) (Rows.textSameSpec.post enc Tryd.prog Tryd.f6 false true false false) := by
  refine returnsInHanded_of_change_and (C := Tryd.checked) (X := fun w _ => laidMetH Tryd.prog T.laid1 w) (fun _ _ _ hh h => h.of_heap hh) own started (by kernel_rfl) Tryd.func6
    (ChangeSpec.witness_shaped (enc := enc) (C := Tryd.checked) (os := os) (X := fun w _ => laidMetH Tryd.prog T.laid1 w) false (World.laidAll Tryd.prog os T.laid1) #[.slice none 0 0] 8 (World.laidAll_os _ _ _) (World.shaped_of_ZipB (by kernel_rfl) (by kernel_rfl)) (by kernel_rfl) (by kernel_rfl) (by kernel_rfl) (T.laid_met os _)) ?_
  intro W base args ds gs before hval0 hW _ _ hLd _
  have hval : ∀ (j : Nat) t v, Tryd.f6.params[j]? = some t → args[j]? = some v → Value.okWide Tryd.prog W .any base t v := hval0
  have hW' := hW
  obtain ⟨p, q, hA0, hV, rfl, hfz, hnd⟩ := hW
  have hA : DataW.TrodAll enc Tryd.prog W 0 (fun _ => true) true Tryd.f6.params.toList args.toList ds p := hA0
  rw [Tryd.params6] at hA hval
  obtain ⟨v0, vs0, d0, ds0, p0, q0, hargs, rfl, rfl, h0, r0⟩ := trodAll_cons hA
  obtain ⟨rfl, rfl, rfl⟩ := trodAll_nil r0
  obtain rfl : args = #[v0] := by cases args; simp_all
  obtain ⟨rfl, rfl⟩ := trodVars_none hV
  obtain ⟨a0, len0, cap0, rfl⟩ := okWide_slice Tryd.underlying22 (hval 0 22 v0 rfl rfl)
  have k0 := h0
  have lt0 : ∀ x ∈ p0, x.block < W.heap.size := by obtain ⟨m, hm⟩ := k0; exact DataW.trod_lt m _ _ _ hm
  obtain ⟨z0, w0⟩ : ∃ zs, IsRow .u8 W a0 len0 cap0 zs := by
    obtain ⟨fuel, hf⟩ := h0
    rcases open_ints Tryd.underlying22 Tryd.underlying5 (by kernel_rfl) hf with ⟨hcs, _⟩ | ⟨x, l, c, zs, hcs, _, hl, hm, hz, _, hcell, hwz⟩
    · simp [Value.cells] at hcs
      obtain ⟨rfl, rfl, rfl⟩ := hcs
      exact ⟨[], .inl ⟨rfl, rfl, rfl, rfl⟩⟩
    · simp [Value.cells] at hcs
      obtain ⟨rfl, rfl, rfl⟩ := hcs
      exact ⟨zs, .inr ⟨_, rfl, hl, hm, by simpa using hz, hcell, hwz⟩⟩
  clear hA0 hval0
  refine (walk a0 len0 cap0 z0 W w0).mono fun e W' ⟨he, bel⟩ => ?_
  subst he
  exact ⟨_, rfl, _, _, _, [], _, [], hW', trodAll_mk1 (shut_bool Tryd.underlying4 _), (trodAll_cons_mk (Below.trod laidOut (by kernel_rfl) (of_decide_eq_true (by kernel_rfl)) k0 bel lt0) trodAll_mk0), rfl, bel.frame _, fun h => by cases h⟩

theorem over : Rows.textSameRow.holds Tryd.pinned (OpenSpec.ofChange Rows.textSameSpec) :=
  OpenClaim.holds_of_wide 6 Tryd.f6 rfl rfl rfl rfl rfl rfl rfl ⟨rfl, rfl, rfl, rfl, rfl⟩ rfl rfl rfl rfl rfl (by kernel_rfl) Tryd.func6 (by kernel_rfl)
    (of_decide_eq_true (by kernel_rfl)) (by unfold Func.isWrapper; first | (rw [if_pos (by decide +kernel)]; kernel_rfl) | (rw [if_neg (by decide +kernel)]; exact ⟨rfl, rfl⟩))
    (fun os started H enc _ => lifted os started H enc)

end Go.Proofs.YtcllmkfaifalgaaDoor.textSame
namespace Go.Proofs.YtcllmkfaifalgaaDoor
/-- The given statement. -/
theorem textSame_proved : Rows.TextSameCardSaid :=
  Claim7.holds_tied_plain_at .later [] [.data, .pinned] true (true, "4c7015fd4d7d1341bd0d4dc2c40d8b994845262db2060e7f52ae95cdd162ef0f") false
    textSame.over (fun _ h => by cases h) (by kernel_rfl) (fun _ h => by cases h) textSame_row_tie rfl ⟨rfl, rfl⟩ (by kernel_rfl) rfl
    (fun f fn hf hfn => by
      obtain rfl : f = 6 := Option.some.inj ((show Tryd.prog.funcNamed "affiant/affiantlaw15.TextSame" = some 6 by kernel_rfl).symm.trans hf) |>.symm
      obtain rfl : fn = Tryd.f6 := (Option.some.inj (Tryd.func6.symm.trans hfn)).symm
      exact ⟨by kernel_rfl, fun j t ht => by
        rw [Tryd.params6] at ht
        have hm : t ∈ ([22] : List TypeId) := by simpa using Array.mem_of_getElem? ht
        have hall : (([22] : List TypeId).all fun u => !Tryd.prog.wantsStandIn u) = true := by kernel_rfl
        exact (show Tryd.prog.wantsStandIn t = false by simpa using List.all_eq_true.1 hall t hm)⟩)
    (by kernel_rfl)
end Go.Proofs.YtcllmkfaifalgaaDoor
