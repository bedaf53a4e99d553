/-
  Proved: for every list of words a and every integer n the law NatShifts returns true, and the list reads as before. No conditions.
-/
import Derived.Test.YtmbmabgdhdbmeaaRows
import Derived.Test.YtmbmabgdhdbmeaaRefG
import Derived.Test.YtmbmabgdhdbmeaaLawK
import Derived.WalkKit
import Derived.ProofKit
import Derived.OpenShut
import Derived.ShutString
import Derived.ChangeOld
import Derived.Below
namespace Go.Proofs.Ytmbmabgdhdbmeaa.natShifts
open Go.ChangeShapes Go.WideShapes Go.ChangeAt Go.RowKit
open Go.ChangeMaps (open_string shut_string)
set_option linter.unusedVariables false

theorem own : ownKnob Try.prog.godebug = none := by kernel_rfl
theorem laidOut : laidOutB Try.prog = true := by kernel_rfl

set_option maxHeartbeats 8000000 in
/-- The walk: the law returns true and writes nothing that was there. -/
theorem walk (a0 : Option Addr) (len0 cap0 : Nat) (z0 : List Int) (a1 : Int) (w : World) (w0 : IsRow .u32 w a0 len0 cap0 z0) (w1 : (Lit.int .i64 a1).wf = true) :
    Calls Try.prog 7 #[.slice a0 len0 cap0, .int .i64 a1] w fun e w' => e = .returned (.bool true) ∧ Below w.heap.size w w' := by
  have hbit : a1 ≤ 9223372036854775807 := by
    simp [Lit.wf, IntKind.min, IntKind.max, IntKind.signed, IntKind.bits] at w1
    omega
  clear w1
  obtain ⟨xs0, hs0, hl0, hn0⟩ := open32 w0
  have hm0 : len0 ≤ maxLen := by have := hs0.len; rwa [C_length, hn0] at this
  have hi0 : (len0 : Int) ≤ 9223372036854775807 := by unfold maxLen at hm0; omega
  clear w0
  by_cases h0 : 80 < (len0 : Int)
  · go_enter Try.func7, Try.ntmps7
    go_wp2_with (go_at_call 11; refine (alive_true _).mono ?_; rintro e w' ⟨rfl, hb⟩)
    go_ret
    exact ⟨rfl, hb⟩
  have k0 : xs0.length ≤ 80 := by omega
  have HN0 : Num w (.slice a0 len0 cap0) (val W32 xs0) 80 := ⟨xs0, hs0, hl0, rfl, k0⟩
  have LA := Away.mk HN0.lt
  have hA : Below w.heap.size w (w.alloc (.cells #[] 47)) := (Below.refl _ _).alloc (Nat.le_refl _) _
  have hsA := hs0.below hA
  have hoA := own_empty w w.heap.size 47 (Nat.le_refl _)
  have HL := Away.mk hl0
  clear HN0 hl0 hm0
  go_enter Try.func7, Try.ntmps7
  go_wp2_with (at_builtin; refine wpList_append_sl rfl (.tmp 16) (.tmp 17) 23 rfl w.heap.size 47 (.int .u32 0) 4 Try.underlying23 Try.info47 rfl _ 0 [] rfl hoA _ (C .u32 xs0) rfl hsA (C_one _ _) (by rw [C_length]; unfold maxLen; omega) (by rw [C_length]; omega) hA.size ?_)
  intro v5 y1 hown hg1
  have hb1 : Below w.heap.size w y1 := hA.grown hg1 hA.size (fun k hk => (hoA.lt k hk).1)
  have S5 := Away.mk (SlV.ofOwn hown)

  have SA := Away.mk (hs0.below hb1)
  have HW := Away.mk hb1
  have HB : Away (Below y1.heap.size y1 y1) := ⟨Below.refl _ _⟩
  clear hown hg1 hb1 hoA hsA hA hs0
  by_cases hr : 0 ≤ a1 ∧ a1 ≤ 16384
  · obtain ⟨m, rfl⟩ := Int.eq_ofNat_of_zero_le hr.1
    have hm : m ≤ 16384 := by omega
    obtain ⟨KK, hKK, hKl⟩ : ∃ KK, KK = 80 + 512 ∧ KK ≤ 1000 := ⟨_, rfl, by decide⟩
    have LN : Away (val W32 xs0 * 2 ^ m < W32 ^ KK) := ⟨by rw [hKK]; exact shl_fits (K := 80) (M := 512) LA.out (by omega)⟩
    have LR : Away (val W32 xs0 / 2 ^ (m : Int).toNat < W32 ^ 80) := ⟨Nat.lt_of_le_of_lt (Nat.div_le_self _ _) LA.out⟩
    go_wp2_with fail
    refine (shl_any _ xs0 m _ (S5.out.below HB.out) HL.out (by omega) hm).mono ?_
    rintro _ x8 ⟨v6, rfl, ⟨zs, hI, hz6, how⟩, hb⟩
    have hzl : zs.length ≤ KK := (hI.len (by decide) _).2 LN.out
    have HRA := Away.mk (show RA _ v6 _ from ⟨zs, hI, hz6⟩)
    have HZS := Away.mk hz6; have HOW := Away.mk how
    replace HB := Away.mk (HB.out.trans (hb.mono HB.out.size))
    have HBX : Away (Below x8.heap.size x8 x8) := ⟨Below.refl _ _⟩
    clear hI hz6 how hb
    go_wp2_with fail
    refine (refshl_any _ xs0 m _ (SA.out.below HB.out) HL.out (by omega) hm).mono ?_
    rintro _ x17 ⟨v8, rfl, hr8, hb⟩
    have HR8 := Away.mk hr8
    clear hr8
    replace HB := Away.mk (HB.out.trans (hb.mono HB.out.size))
    replace HBX := Away.mk (HBX.out.trans (hb.mono HBX.out.size))
    replace HRA := Away.mk (HRA.out.below hb)
    replace HZS := Away.mk (HZS.out.below hb)
    clear hb
    go_wp2_with fail
    refine (same_rb _ _ _ KK _ HRA.out HR8.out (by omega) LN.out).mono ?_
    rintro _ x27 ⟨rfl, hb⟩
    replace HB := Away.mk (HB.out.trans (hb.mono HB.out.size))
    replace HBX := Away.mk (HBX.out.trans (hb.mono HBX.out.size))
    replace HRA := Away.mk (HRA.out.below hb)
    replace HZS := Away.mk (HZS.out.below hb)
    clear hb
    clear HR8 HRA
    go_wp2_with fail
    refine (shr_any _ xs0 (m : Int) _ (S5.out.below HB.out) HL.out (by omega) hbit).mono ?_
    rintro _ x36 ⟨v9, rfl, hr9, hb⟩
    have HR9 := Away.mk hr9.ra
    clear hr9
    replace HB := Away.mk (HB.out.trans (hb.mono HB.out.size))
    replace HBX := Away.mk (HBX.out.trans (hb.mono HBX.out.size))
    replace HZS := Away.mk (HZS.out.below hb)
    clear hb
    go_wp2_with fail
    refine (refshr_any _ xs0 (m : Int) _ (SA.out.below HB.out) HL.out (by omega) hbit).mono ?_
    rintro _ x45 ⟨v10, rfl, hr10, hb⟩
    have HR10 := Away.mk hr10
    clear hr10
    replace HB := Away.mk (HB.out.trans (hb.mono HB.out.size))
    replace HBX := Away.mk (HBX.out.trans (hb.mono HBX.out.size))
    replace HZS := Away.mk (HZS.out.below hb)
    replace HR9 := Away.mk (HR9.out.below hb)
    clear hb
    go_wp2_with fail
    refine (same_rb _ _ _ 80 _ HR9.out HR10.out (by decide) LR.out).mono ?_
    rintro _ x55 ⟨rfl, hb⟩
    replace HB := Away.mk (HB.out.trans (hb.mono HB.out.size))
    replace HBX := Away.mk (HBX.out.trans (hb.mono HBX.out.size))
    replace HZS := Away.mk (HZS.out.below hb)
    replace HR9 := Away.mk (HR9.out.below hb)
    clear hb
    clear HR9 HR10 LR LN
    go_wp2
    obtain ⟨n6, hn6⟩ : ∃ n6, zs.length = n6 := ⟨_, rfl⟩
    rcases Nat.eq_zero_or_pos n6 with hz | hz
    · subst hz
      obtain ⟨a6, c6, rfl, _, _⟩ := HZS.out.shapeC hn6
      go_loopw [11] (fun iv wr => iv = .int .i64 0 ∧ Below y1.heap.size y1 wr) (fun _ _ => 0)
      case atStart => exact ⟨rfl, HB.out⟩
      case round =>
        obtain ⟨rfl, hbw⟩ := hrel
        have HB := Away.mk hbw
        clear hbw
        go_wp2_with fail
        refine (alive_true _).mono ?_
        rintro _ f1 ⟨rfl, hb⟩
        replace HB := Away.mk (HB.out.trans (hb.mono HB.out.size))
        clear hb
        go_wp2_with fail
        refine (same_any _ _ xs0 xs0 _ (S5.out.below HB.out) (SA.out.below HB.out) rfl (by omega)).mono ?_
        rintro _ f2 ⟨rfl, hb⟩
        replace HB := Away.mk (HB.out.trans (hb.mono HB.out.size))
        go_wp2
        go_ret
        exact ⟨rfl, HW.out.trans (HB.out.mono HW.out.size)⟩
    · obtain ⟨g, rest, hv6, hgg, hrow⟩ := HOW.out (by omega)
      rw [hn6] at hv6
      subst hv6
      have HROW := Away.mk (hrow.belowS HBX.out)
      have hn6m : n6 ≤ 1000 := by omega
      clear hrow
      go_loopw [11] (fun iv wr => ∃ (k : Nat) (us : List Value), k ≤ n6 ∧ iv = .int .i64 (k : Int) ∧ Row wr g 47 us ∧ n6 ≤ us.length ∧ Below y1.heap.size y1 wr) (fun i _ => n6 - (intOf i).toNat)
      case atStart => exact ⟨0, _, Nat.zero_le _, rfl, HROW.out, by simp [C_length]; omega, HB.out⟩
      case round =>
        obtain ⟨k, us, hk, rfl, hr, hul, hbw⟩ := hrel
        by_cases hlt : k < n6
        · have hco := (hr.cell k).trans (List.getElem?_eq_getElem (show k < us.length by omega))
          have hfo := hr.frozen k
          generalize us[k] = u at hco
          have HR := Away.mk hr; have HBW := Away.mk hbw
          clear hr hbw
          go_wp2
          go_roundw
          case rel => exact ⟨k + 1, _, by omega, by go_num, HR.out.set k _, by simpa using hul, HBW.out.setCell (p := ⟨g, k, none⟩) (by omega) _⟩
          case measure => simp [intOf]; omega
        · obtain rfl : k = n6 := by omega
          have HB := Away.mk hbw
          clear hbw hr
          go_wp2_with fail
          refine (alive_true _).mono ?_
          rintro _ f1 ⟨rfl, hb⟩
          replace HB := Away.mk (HB.out.trans (hb.mono HB.out.size))
          clear hb
          go_wp2_with fail
          refine (same_any _ _ xs0 xs0 _ (S5.out.below HB.out) (SA.out.below HB.out) rfl (by omega)).mono ?_
          rintro _ f2 ⟨rfl, hb⟩
          replace HB := Away.mk (HB.out.trans (hb.mono HB.out.size))
          go_wp2
          go_ret
          exact ⟨rfl, HW.out.trans (HB.out.mono HW.out.size)⟩
  · have hr' : a1 < 0 ∨ 16384 < a1 := by omega
    have LR : Away (val W32 xs0 / 2 ^ a1.toNat < W32 ^ 80) := ⟨Nat.lt_of_le_of_lt (Nat.div_le_self _ _) LA.out⟩
    go_wp2_with fail
    refine (shl_bad _ a1 _ hr').mono ?_
    rintro _ x ⟨rfl, rfl⟩
    go_wp2_with fail
    refine (refshl_bad _ a1 _ hr').mono ?_
    rintro _ x ⟨rfl, rfl⟩
    go_wp2_with fail
    refine (same_any _ _ [] [] _ (SlV.nil _) (SlV.nil _) rfl (by simp)).mono ?_
    rintro _ x10 ⟨rfl, hb⟩
    replace HB := Away.mk (HB.out.trans (hb.mono HB.out.size))
    clear hb
    go_wp2_with fail
    refine (shr_any _ xs0 a1 _ (S5.out.below HB.out) HL.out (by omega) hbit).mono ?_
    rintro _ x15 ⟨v9, rfl, hr9, hb⟩
    have HR9 := Away.mk hr9.ra
    clear hr9
    replace HB := Away.mk (HB.out.trans (hb.mono HB.out.size))
    clear hb
    go_wp2_with fail
    refine (refshr_any _ xs0 a1 _ (SA.out.below HB.out) HL.out (by omega) hbit).mono ?_
    rintro _ x22 ⟨v10, rfl, hr10, hb⟩
    replace HR9 := Away.mk (HR9.out.below hb)
    have HR10 := Away.mk hr10
    clear hr10
    replace HB := Away.mk (HB.out.trans (hb.mono HB.out.size))
    clear hb
    go_wp2_with fail
    refine (same_rb _ _ _ 80 _ HR9.out HR10.out (by decide) LR.out).mono ?_
    rintro _ x30 ⟨rfl, hb⟩
    replace HR9 := Away.mk (HR9.out.below hb)
    replace HB := Away.mk (HB.out.trans (hb.mono HB.out.size))
    clear hb
    clear HR9 HR10 LR
    go_wp2
    go_loopw [11] (fun iv wr => iv = .int .i64 0 ∧ Below y1.heap.size y1 wr) (fun _ _ => 0)
    case atStart => exact ⟨rfl, HB.out⟩
    case round =>
      obtain ⟨rfl, hbw⟩ := hrel
      have HB := Away.mk hbw
      clear hbw
      go_wp2_with fail
      refine (alive_true _).mono ?_
      rintro _ f1 ⟨rfl, hb⟩
      replace HB := Away.mk (HB.out.trans (hb.mono HB.out.size))
      clear hb
      go_wp2_with fail
      refine (same_any _ _ xs0 xs0 _ (S5.out.below HB.out) (SA.out.below HB.out) rfl (by omega)).mono ?_
      rintro _ f2 ⟨rfl, hb⟩
      replace HB := Away.mk (HB.out.trans (hb.mono HB.out.size))
      go_wp2
      go_ret
      exact ⟨rfl, HW.out.trans (HB.out.mono HW.out.size)⟩

set_option maxRecDepth 100000 in
theorem lifted (os : Os) (started : os.Started) (H : Type) (enc : TypeId × Value → H) :
    ReturnsInHanded {} Try.checked os 7 .any (Rows.natShiftsSpec.pre6 enc Try.prog Try.f7 Rows.natShiftsRow.domain false) (Rows.natShiftsSpec.post enc Try.prog Try.f7 false true false false) := by
  refine returnsInHanded_of_change (C := Try.checked) own started (by kernel_rfl) Try.func7
    (ChangeSpec.witness6 (enc := enc) (C := Try.checked) false ⟨#[], #[.slice none 0 0, .int .i64 0], []⟩ 8 (by kernel_rfl) (by kernel_rfl) (by kernel_rfl) (by kernel_rfl)) ?_
  intro W base args ds gs before hval0 hW hcnd _
  have hval : ∀ (j : Nat) t v, Try.f7.params[j]? = some t → args[j]? = some v → Value.okWide Try.prog W .any base t v := hval0
  have hW' := hW
  obtain ⟨p, q, hA0, hV, rfl, hfz, hnd⟩ := hW
  have hA : DataW.TrodAll enc Try.prog W 0 (fun _ => true) true Try.f7.params.toList args.toList ds p := hA0
  rw [Try.params7] at hA hval
  obtain ⟨v0, vs0, d0, ds0, p0, q0, hargs, rfl, rfl, h0, r0⟩ := trodAll_cons hA
  obtain ⟨v1, vs1, d1, ds1, p1, q1, rfl, rfl, rfl, h1, r1⟩ := trodAll_cons r0
  obtain ⟨rfl, rfl, rfl⟩ := trodAll_nil r1
  obtain rfl : args = #[v0, v1] := by cases args; simp_all
  obtain ⟨rfl, rfl⟩ := trodVars_none hV
  obtain ⟨a0, len0, cap0, rfl⟩ := okWide_slice Try.underlying23 (hval 0 23 v0 rfl rfl)
  have k0 := h0
  have lt0 : ∀ x ∈ p0, x.block < W.heap.size := by obtain ⟨m, hm⟩ := k0; exact DataW.trod_lt m _ _ _ hm
  obtain ⟨z0, w0⟩ : ∃ zs, IsRow .u32 W a0 len0 cap0 zs := by
    obtain ⟨fuel, hf⟩ := h0
    rcases open_ints Try.underlying23 Try.underlying47 (by kernel_rfl) hf with ⟨hcs, _⟩ | ⟨x, l, c, zs, hcs, _, hl, hm, hz, _, hcell, hwz⟩
    · simp [Value.cells] at hcs
      obtain ⟨rfl, rfl, rfl⟩ := hcs
      exact ⟨[], .inl ⟨rfl, rfl, rfl, rfl⟩⟩
    · simp [Value.cells] at hcs
      obtain ⟨rfl, rfl, rfl⟩ := hcs
      exact ⟨zs, .inr ⟨_, rfl, hl, hm, by simpa using hz, hcell, hwz⟩⟩
  obtain ⟨a1, rfl, rfl, rfl, w1⟩ := open_int Try.underlying3 (hval 1 3 v1 rfl rfl) h1
  clear hA0 hval0
  refine (walk a0 len0 cap0 z0 a1 W w0 w1).mono fun e W' ⟨he, bel⟩ => ?_
  subst he
  exact ⟨_, rfl, _, _, _, [], _, [], hW', trodAll_mk1 (shut_bool Try.underlying4 _), (trodAll_cons_mk (Below.trod laidOut (by kernel_rfl) (of_decide_eq_true (by kernel_rfl)) k0 bel lt0) (trodAll_cons_mk (shut_int Try.underlying3 w1) trodAll_mk0)), rfl, bel.frame _, fun h => by cases h⟩

theorem over : Rows.natShiftsRow.holds Try.pinned (OpenSpec.ofChange Rows.natShiftsSpec) :=
  OpenClaim.holds_of_wide 7 Try.f7 rfl rfl rfl rfl rfl rfl rfl ⟨rfl, rfl, rfl, rfl, rfl⟩ rfl rfl rfl rfl rfl (by kernel_rfl) Try.func7 (by kernel_rfl)
    (of_decide_eq_true (by kernel_rfl)) (by unfold Func.isWrapper; first | (rw [if_pos (by decide +kernel)]; kernel_rfl) | (rw [if_neg (by decide +kernel)]; exact ⟨rfl, rfl⟩))
    (fun os started H enc _ => lifted os started H enc)

end Go.Proofs.Ytmbmabgdhdbmeaa.natShifts
namespace Go.Proofs.Ytmbmabgdhdbmeaa
/-- The given statement. -/
theorem natShifts_proved : Rows.NatShiftsSaid := natShifts.over
end Go.Proofs.Ytmbmabgdhdbmeaa
