/-
  Proved: for every algorithm's number and every byte slice b the law HashSum returns true, and its arguments read as before. No conditions of ours; the packages' variables start as their initialisers lay them, as the given card ties them.
-/
import Derived.Test.YtmbaenodibfedaaDoorRows
import Derived.Test.YtmbaenodibfedaaDoorCards
import Derived.Test.YtmbaenodibfedaaDoorTie
import Derived.SevenTiedAt
import Derived.Test.YtmbaenodibfedaaDoorHshR
import Derived.WalkKit
import Derived.ProofKit
import Derived.OpenShut
import Derived.ShutString
import Derived.ChangeOld
import Derived.Below
namespace Go.Proofs.YtmbaenodibfedaaDoor.hashSum
open Go.ChangeShapes Go.WideShapes Go.ChangeAt Go.RowKit
open Go.ChangeMaps (open_string shut_string)
set_option linter.unusedVariables false

theorem own : ownKnob Tryd.prog.godebug = none := by kernel_rfl
theorem laidOut : laidOutB Tryd.prog = true := by kernel_rfl

set_option maxRecDepth 10000 in
set_option maxHeartbeats 1600000 in
/-- The walk: the law returns true and writes nothing that was there. -/
theorem walk (a0 : Int) (a1 : Option Addr) (len1 cap1 : Nat) (z1 : List Int) (w : World) (w0 : (Lit.int .i64 a0).wf = true) (w1 : IsRow .u8 w a1 len1 cap1 z1) (hTab : S9.Tabs w) :
    Calls Tryd.prog 3 #[.int .i64 a0, .slice a1 len1 cap1] w fun e w' => e = .returned (.bool true) ∧ Below w.heap.size w w' := by
  obtain ⟨xs, hs, hlen, hbx⟩ := w1.bytes
  clear w1 w0
  have hml := hs.len
  rw [C_length, hlen] at hml
  have hmx : (len1 : Int) ≤ 9223372036854775807 := by unfold maxLen at hml; omega
  by_cases hlong : 400 < len1
  · have hl' : (400 : Int) < (len1 : Int) := by omega
    go_enter Tryd.func3, Tryd.ntmps3
    go_wp2_with fail
    refine (S9.alive_true _ hTab).mono ?_
    rintro e w' ⟨rfl, hb⟩
    go_wp2
    go_ret
    exact ⟨rfl, hb⟩
  have hl' : ¬ (400 : Int) < (len1 : Int) := by omega
  have hA : Below w.heap.size w (w.alloc (.cells #[] 5)) := (Below.refl _ _).alloc (Nat.le_refl _) _
  have hsA := hs.below hA
  have hoA := own_empty w w.heap.size 5 (Nat.le_refl _)
  go_enter Tryd.func3, Tryd.ntmps3
  go_wp2_with (at_builtin; refine wpList_append_sl rfl (.tmp 14) (.tmp 15) 22 rfl w.heap.size 5 _ 1 Tryd.underlying22 S2.inf8 rfl _ 0 [] rfl hoA _ (C .u8 xs) rfl hsA (C_one _ _) (by rw [C_length]; unfold maxLen; omega) (by rw [C_length]; omega) (by simp) ?_)
  intro v1 w1 ho1 hg1
  have hb1 : Below w.heap.size w w1 := hA.grown hg1 hA.size (fun k hk => (hoA.lt k hk).1)
  have ho1 : w1.ownsRow w.heap.size 5 1 v1 len1 (C .u8 xs) := by simpa [C_length, hlen] using ho1
  have hO1 := SlV.ofOwn ho1
  clear hg1 hoA hsA hA ho1
  by_cases hk : S9.Kn a0
  · go_wp2_with fail
    refine (S9.sum_any a0 hk v1 xs _ hO1 hbx (by omega) (hTab.below hb1)).mono ?_
    rintro e w2 ⟨x, rfl, hX2, hb2⟩
    have hO2 := hO1.below hb2
    have hb2 := hb1.trans (hb2.mono hb1.size)
    clear hO1 hb1
    go_wp2_with fail
    refine (S9.refsum_any a0 hk _ xs _ (hs.below hb2) hbx (by omega)).mono ?_
    rintro e w3 ⟨y, rfl, hY3, hb3⟩
    have hO3 := hO2.below hb3
    have hX3 := hX2.below hb3
    have hb3 := hb2.trans (hb3.mono hb2.size)
    clear hO2 hX2 hb2
    go_wp2_with fail
    refine (S9.alive_true _ (hTab.below hb3)).mono ?_
    rintro e w4 ⟨rfl, hb4⟩
    have s1 := S9.str9 (hO3.below hb4)
    have s2 := S9.str9 ((hs.below hb3).below hb4)
    have s3 := S9.str9 (hX3.below hb4)
    have s4 := S9.str9 (hY3.below hb4)
    have hb4 := hb3.trans (hb4.mono hb3.size)
    generalize strOfNums (xs.map Int.ofNat) = sx at *
    generalize strOfNums ((S9.dig a0 xs).map Int.ofNat) = sd at *
    clear hO3 hX3 hY3 hb3 hs
    generalize hsz : S9.siz a0 = z
    have HSZ := Away.mk hsz
    clear hsz
    obtain ⟨wk, hwk⟩ : ∃ wk, (decide (a0 = 2) || decide (z = 0)) = wk := ⟨_, rfl⟩
    have HWK := Away.mk hwk
    clear hwk
    go_wp2_with fail
    refine (S9.size_any a0 _).mono ?_
    rintro e w' ⟨rfl, rfl⟩
    rw [HSZ.out]
    go_wp2_with fail
    refine (S9.refsize_any a0 _).mono ?_
    rintro e w' ⟨rfl, rfl⟩
    rw [HSZ.out]
    go_wp2_with fail
    refine (S9.weak_any a0 _).mono ?_
    rintro e w' ⟨rfl, rfl⟩
    rw [HSZ.out]
    rw [HWK.out]
    go_wp2_with fail
    refine (S9.refweak_any a0 _).mono ?_
    rintro e w' ⟨rfl, rfl⟩
    rw [HSZ.out, HWK.out]
    go_wp2
    go_ret
    exact ⟨rfl, hb4⟩
  · go_wp2_with fail
    refine (S9.sum_no a0 hk v1 _).mono ?_
    rintro e w2 ⟨rfl, rfl⟩
    go_wp2_with fail
    refine (S9.refsum_no a0 hk _ _).mono ?_
    rintro e w3 ⟨rfl, rfl⟩
    have hO3 := hO1
    have hX3 : SlV w1 (.slice none 0 0) (C .u8 []) := SlV.nil w1
    have hY3 := hX3
    have hb3 := hb1
    clear hO1 hb1
    go_wp2_with fail
    refine (S9.alive_true _ (hTab.below hb3)).mono ?_
    rintro e w4 ⟨rfl, hb4⟩
    have s1 := S9.str9 (hO3.below hb4)
    have s2 := S9.str9 ((hs.below hb3).below hb4)
    have s3 := S9.str9 (hX3.below hb4)
    have s4 := S9.str9 (hY3.below hb4)
    have hb4 := hb3.trans (hb4.mono hb3.size)
    generalize strOfNums (xs.map Int.ofNat) = sx at *
    generalize strOfNums (([]).map Int.ofNat) = sd at *
    clear hO3 hX3 hY3 hb3 hs
    generalize hsz : S9.siz a0 = z
    have HSZ := Away.mk hsz
    clear hsz
    obtain ⟨wk, hwk⟩ : ∃ wk, (decide (a0 = 2) || decide (z = 0)) = wk := ⟨_, rfl⟩
    have HWK := Away.mk hwk
    clear hwk
    go_wp2_with fail
    refine (S9.size_any a0 _).mono ?_
    rintro e w' ⟨rfl, rfl⟩
    rw [HSZ.out]
    go_wp2_with fail
    refine (S9.refsize_any a0 _).mono ?_
    rintro e w' ⟨rfl, rfl⟩
    rw [HSZ.out]
    go_wp2_with fail
    refine (S9.weak_any a0 _).mono ?_
    rintro e w' ⟨rfl, rfl⟩
    rw [HSZ.out]
    rw [HWK.out]
    go_wp2_with fail
    refine (S9.refweak_any a0 _).mono ?_
    rintro e w' ⟨rfl, rfl⟩
    rw [HSZ.out, HWK.out]
    go_wp2
    go_ret
    exact ⟨rfl, hb4⟩

set_option maxRecDepth 100000 in
theorem lifted (os : Os) (started : os.Started) (H : Type) (enc : TypeId × Value → H) :
    ReturnsInHanded {} Tryd.checked os 3 .any (fun w args => (Rows.hashSumSpec.pre enc Tryd.prog Tryd.f3 [] false w args ∧ laidMetH Tryd.prog S9.laid1 w) ∧ sizedMet enc Tryd.prog Tryd.f3 (OpenSpec.ofChange Rows.hashSumSpec) false w args) (Rows.hashSumSpec.post enc Tryd.prog Tryd.f3 false true false false) := by
  refine returnsInHanded_of_change_and (C := Tryd.checked) (X := fun w _ => laidMetH Tryd.prog S9.laid1 w) (fun _ _ _ hh h => h.of_heap hh) own started (by kernel_rfl) Tryd.func3
    (ChangeSpec.witness_shaped (enc := enc) (C := Tryd.checked) (os := os) (X := fun w _ => laidMetH Tryd.prog S9.laid1 w) false (World.doorLaid Tryd.prog 400 os) #[.int .i64 0, .slice none 0 0] 8 rfl (World.shaped_of_RefB (by kernel_rfl) (by kernel_rfl)) (by kernel_rfl) (by kernel_rfl) (by kernel_rfl) (S9.door_met os _)) ?_
  intro W base args ds gs before hval0 hW _ _ hLd _
  have hval : ∀ (j : Nat) t v, Tryd.f3.params[j]? = some t → args[j]? = some v → Value.okWide Tryd.prog W .any base t v := hval0
  have hW' := hW
  obtain ⟨p, q, hA0, hV, rfl, hfz, hnd⟩ := hW
  have hA : DataW.TrodAll enc Tryd.prog W 0 (fun _ => true) true Tryd.f3.params.toList args.toList ds p := hA0
  rw [Tryd.params3] at hA hval
  obtain ⟨v0, vs0, d0, ds0, p0, q0, hargs, rfl, rfl, h0, r0⟩ := trodAll_cons hA
  obtain ⟨v1, vs1, d1, ds1, p1, q1, rfl, rfl, rfl, h1, r1⟩ := trodAll_cons r0
  obtain ⟨rfl, rfl, rfl⟩ := trodAll_nil r1
  obtain rfl : args = #[v0, v1] := by cases args; simp_all
  obtain ⟨rfl, rfl⟩ := trodVars_none hV
  obtain ⟨a0, rfl, rfl, rfl, w0⟩ := open_int Tryd.underlying3 (hval 0 3 v0 rfl rfl) h0
  obtain ⟨a1, len1, cap1, rfl⟩ := okWide_slice Tryd.underlying22 (hval 1 22 v1 rfl rfl)
  have k1 := h1
  have lt1 : ∀ x ∈ p1, x.block < W.heap.size := by obtain ⟨m, hm⟩ := k1; exact DataW.trod_lt m _ _ _ hm
  obtain ⟨z1, w1⟩ : ∃ zs, IsRow .u8 W a1 len1 cap1 zs := by
    obtain ⟨fuel, hf⟩ := h1
    rcases open_ints Tryd.underlying22 Tryd.underlying5 (by kernel_rfl) hf with ⟨hcs, _⟩ | ⟨x, l, c, zs, hcs, _, hl, hm, hz, _, hcell, hwz⟩
    · simp [Value.cells] at hcs
      obtain ⟨rfl, rfl, rfl⟩ := hcs
      exact ⟨[], .inl ⟨rfl, rfl, rfl, rfl⟩⟩
    · simp [Value.cells] at hcs
      obtain ⟨rfl, rfl, rfl⟩ := hcs
      exact ⟨zs, .inr ⟨_, rfl, hl, hm, by simpa using hz, hcell, hwz⟩⟩
  clear hA0 hval0
  refine (walk a0 a1 len1 cap1 z1 W w0 w1 (S9.of_laid hLd)).mono fun e W' ⟨he, bel⟩ => ?_
  subst he
  exact ⟨_, rfl, _, _, _, [], _, [], hW', trodAll_mk1 (shut_bool Tryd.underlying4 _), (trodAll_cons_mk (shut_int Tryd.underlying3 w0) (trodAll_cons_mk (Below.trod laidOut (by kernel_rfl) (of_decide_eq_true (by kernel_rfl)) k1 bel lt1) trodAll_mk0)), rfl, bel.frame _, fun h => by cases h⟩

theorem over : Rows.hashSumRow.holds Tryd.pinned (OpenSpec.ofChange Rows.hashSumSpec) :=
  OpenClaim.holds_of_wide 3 Tryd.f3 rfl rfl rfl rfl rfl rfl rfl ⟨rfl, rfl, rfl, rfl, rfl⟩ rfl rfl rfl rfl rfl (by kernel_rfl) Tryd.func3 (by kernel_rfl)
    (of_decide_eq_true (by kernel_rfl)) (by unfold Func.isWrapper; first | (rw [if_pos (by decide +kernel)]; kernel_rfl) | (rw [if_neg (by decide +kernel)]; exact ⟨rfl, rfl⟩))
    (fun os started H enc _ => lifted os started H enc)

end Go.Proofs.YtmbaenodibfedaaDoor.hashSum
namespace Go.Proofs.YtmbaenodibfedaaDoor
/-- The given statement. -/
theorem hashSum_proved : Rows.HashSumCardSaid :=
  Claim7.holds_tied_plain_at .later [] [.data, .data] true (true, "acf3b126d85603c7875b7185765e22b2556293ded4c5da733af97786718a27d3") false
    hashSum.over (fun _ h => by cases h) (by kernel_rfl) (fun _ h => by cases h) hashSum_row_tie rfl ⟨rfl, rfl⟩ (by kernel_rfl) rfl
    (fun f fn hf hfn => by
      obtain rfl : f = 3 := Option.some.inj ((show Tryd.prog.funcNamed "affiant/affiantlaw09.HashSum" = some 3 by kernel_rfl).symm.trans hf) |>.symm
      obtain rfl : fn = Tryd.f3 := (Option.some.inj (Tryd.func3.symm.trans hfn)).symm
      exact ⟨by kernel_rfl, fun j t ht => by
        rw [Tryd.params3] at ht
        have hm : t ∈ ([3,22] : List TypeId) := by simpa using Array.mem_of_getElem? ht
        have hall : (([3,22] : List TypeId).all fun u => !Tryd.prog.wantsStandIn u) = true := by kernel_rfl
        exact (show Tryd.prog.wantsStandIn t = false by simpa using List.all_eq_true.1 hall t hm)⟩)
    (by kernel_rfl)
end Go.Proofs.YtmbaenodibfedaaDoor
