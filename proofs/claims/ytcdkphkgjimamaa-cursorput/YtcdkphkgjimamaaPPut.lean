/-
  Proved: for every byte slice b, every uint64 n and every int width the law CursorPut returns true, and its arguments read as before. No conditions.
-/
import Derived.Test.YtcdkphkgjimamaaRows
import Derived.Test.YtcdkphkgjimamaaCur
import Derived.WalkKit
import Derived.ProofKit
import Derived.OpenShut
import Derived.ShutString
import Derived.ChangeOld
import Derived.Below
namespace Go.Proofs.Ytcdkphkgjimamaa.cursorPut
open Go.ChangeShapes Go.WideShapes Go.ChangeAt Go.RowKit
open Go.ChangeMaps (open_string shut_string)
set_option linter.unusedVariables false

theorem own : ownKnob Try.prog.godebug = none := by kernel_rfl
theorem laidOut : laidOutB Try.prog = true := by kernel_rfl

/-- The walk: the law returns true and writes nothing that was there. -/
theorem walk (a0 : Option Addr) (len0 cap0 : Nat) (z0 : List Int) (a1 : Int) (a2 : Int) (w : World) (w0 : IsRow .u8 w a0 len0 cap0 z0) (w1 : (Lit.int .u64 a1).wf = true) (w2 : (Lit.int .i64 a2).wf = true) :
    Calls Try.prog 4 #[.slice a0 len0 cap0, .int .u64 a1, .int .i64 a2] w fun e w' => e = .returned (.bool true) ∧ Below w.heap.size w w' := by
  obtain ⟨hs, hlen, hwf⟩ := w0.sl
  generalize z0.take len0 = xs at hs hlen hwf
  have hbx : Byt xs := byt_of_wf hwf
  subst hlen
  have hs : SlV w (.slice a0 xs.length cap0) (U xs) := hs
  have hml := hs.len
  rw [U_length] at hml
  have hmx : (xs.length : Int) ≤ 9223372036854775807 := by unfold maxLen at hml; omega
  have hn : 0 ≤ a1 ∧ a1 < 18446744073709551616 := by
    simp [Lit.wf, IntKind.min, IntKind.max, IntKind.signed, IntKind.bits] at w1; omega
  obtain ⟨h0, hn⟩ := hn
  clear w0 hwf w1
  by_cases hlong : 300 < xs.length
  · have hl' : (300 : Int) < (xs.length : Int) := by omega
    go_enter Try.func4, Try.ntmps4
    go_wp2_with (go_at_call 8; refine (alive_true _).mono ?_; rintro e w' ⟨rfl, hb⟩)
    go_ret
    exact ⟨rfl, hb⟩
  · have hl' : ¬ (300 : Int) < (xs.length : Int) := by omega
    obtain ⟨i0, hi, hz0, hz1, hz2⟩ := info_parts Try.info5
    go_enter Try.func4, Try.ntmps4
    go_wp2_with (at_make; refine wpList_make_own _ rfl _ _ 22 rfl w.heap.size 5 i0 _ 1 Try.underlying22 hi hz0 hz1 _ _ _ (xs.length + 9) rfl rfl (by omega) (by rw [hz2]; omega) (by unfold maxLen; omega) (Nat.le_refl _) ?_)
    intro w3 ho3 hg3
    have hb3 : Below w.heap.size w w3 := (Below.refl _ _).grown hg3 (Nat.le_refl _) (by simp)
    have hs3 := hs.below hb3
    clear hg3
    go_wp2_with (at_builtin; refine wpList_append_sl rfl (.tmp 20) (.tmp 21) 22 rfl w.heap.size 5 _ 1 Try.underlying22 Try.info5 rfl _ 0 [] rfl ho3 _ (U xs) rfl hs3 (U_one _) (by rw [U_length]; unfold maxLen; omega) (by rw [U_length]; omega) hb3.size ?_)
    intro v4 w4 ho4 hg4
    have hb4 : Below w.heap.size w w4 := hb3.grown hg4 hb3.size (by simp [Value.ownBlock])
    have ho4 : w4.ownsRow w.heap.size 5 1 v4 xs.length (U xs) := by simpa [U_length] using ho4
    have hs4 := hs.below hb4
    clear hg4 hs3 ho3 hb3
    go_wp2_with fail
    refine (put_any v4 xs a1 a2 w4 (SlV.ofOwn ho4) (by omega) h0 hn).mono ?_
    rintro e w5 ⟨v5, rfl, hs5, hb5⟩
    have hso5 := (SlV.ofOwn ho4).below hb5
    have hsb5 := hs4.below hb5
    have hbw5 := hb4.trans (hb5.mono hb4.size)
    clear ho4 hs4 hb4 hb5
    go_wp2_with fail
    refine (refput_any _ xs a1 a2 w5 hsb5 (by omega) h0 hn).mono ?_
    rintro e w6 ⟨v6, rfl, hs6, hb6⟩
    have hso6 := hso5.below hb6
    have hsb6 := hsb5.below hb6
    have hs56 := hs5.below hb6
    have hbw6 := hbw5.trans (hb6.mono hbw5.size)
    clear hb6 hbw5 hs5 hsb5 hso5
    go_wp2_with fail
    refine (alive_true _).mono ?_
    rintro e w7 ⟨rfl, hb7⟩
    have c1 := str_run (hso6.below hb7)
    have c2 := str_run (hsb6.below hb7)
    have c3 := str_run (hs56.below hb7)
    have c4 := str_run (hs6.below hb7)
    have hbw7 := hbw6.trans (hb7.mono hbw6.size)
    clear hb7 hbw6 hso6 hsb6 hs56 hs6
    go_wp2
    go_ret
    exact ⟨rfl, hbw7⟩

set_option maxRecDepth 100000 in
theorem lifted (os : Os) (started : os.Started) (H : Type) (enc : TypeId × Value → H) :
    ReturnsInHanded {} Try.checked os 4 .any (Rows.cursorPutSpec.pre6 enc Try.prog Try.f4 Rows.cursorPutRow.domain false) (Rows.cursorPutSpec.post enc Try.prog Try.f4 false true false false) := by
  refine returnsInHanded_of_change (C := Try.checked) own started (by kernel_rfl) Try.func4
    (ChangeSpec.witness6 (enc := enc) (C := Try.checked) false ⟨#[], #[.slice none 0 0, .int .u64 0, .int .i64 0], []⟩ 8 (by kernel_rfl) (by kernel_rfl) (by kernel_rfl) (by kernel_rfl)) ?_
  intro W base args ds gs before hval0 hW hcnd _
  have hval : ∀ (j : Nat) t v, Try.f4.params[j]? = some t → args[j]? = some v → Value.okWide Try.prog W .any base t v := hval0
  have hW' := hW
  obtain ⟨p, q, hA0, hV, rfl, hfz, hnd⟩ := hW
  have hA : DataW.TrodAll enc Try.prog W 0 (fun _ => true) true Try.f4.params.toList args.toList ds p := hA0
  rw [Try.params4] at hA hval
  obtain ⟨v0, vs0, d0, ds0, p0, q0, hargs, rfl, rfl, h0, r0⟩ := trodAll_cons hA
  obtain ⟨v1, vs1, d1, ds1, p1, q1, rfl, rfl, rfl, h1, r1⟩ := trodAll_cons r0
  obtain ⟨v2, vs2, d2, ds2, p2, q2, rfl, rfl, rfl, h2, r2⟩ := trodAll_cons r1
  obtain ⟨rfl, rfl, rfl⟩ := trodAll_nil r2
  obtain rfl : args = #[v0, v1, v2] := by cases args; simp_all
  obtain ⟨rfl, rfl⟩ := trodVars_none hV
  obtain ⟨a0, len0, cap0, rfl⟩ := okWide_slice Try.underlying22 (hval 0 22 v0 rfl rfl)
  have k0 := h0
  have lt0 : ∀ x ∈ p0, x.block < W.heap.size := by obtain ⟨m, hm⟩ := k0; exact DataW.trod_lt m _ _ _ hm
  obtain ⟨z0, w0⟩ : ∃ zs, IsRow .u8 W a0 len0 cap0 zs := by
    obtain ⟨fuel, hf⟩ := h0
    rcases open_ints Try.underlying22 Try.underlying5 (by kernel_rfl) hf with ⟨hcs, _⟩ | ⟨x, l, c, zs, hcs, _, hl, hm, hz, _, hcell, hwz⟩
    · simp [Value.cells] at hcs
      obtain ⟨rfl, rfl, rfl⟩ := hcs
      exact ⟨[], .inl ⟨rfl, rfl, rfl, rfl⟩⟩
    · simp [Value.cells] at hcs
      obtain ⟨rfl, rfl, rfl⟩ := hcs
      exact ⟨zs, .inr ⟨_, rfl, hl, hm, by simpa using hz, hcell, hwz⟩⟩
  obtain ⟨a1, rfl, rfl, rfl, w1⟩ := open_int Try.underlying31 (hval 1 31 v1 rfl rfl) h1
  obtain ⟨a2, rfl, rfl, rfl, w2⟩ := open_int Try.underlying3 (hval 2 3 v2 rfl rfl) h2
  clear hA0 hval0
  refine (walk a0 len0 cap0 z0 a1 a2 W w0 w1 w2).mono fun e W' ⟨he, bel⟩ => ?_
  subst he
  exact ⟨_, rfl, _, _, _, [], _, [], hW', trodAll_mk1 (shut_bool Try.underlying4 _), (trodAll_cons_mk (Below.trod laidOut (by kernel_rfl) (of_decide_eq_true (by kernel_rfl)) k0 bel lt0) (trodAll_cons_mk (shut_int Try.underlying31 w1) (trodAll_cons_mk (shut_int Try.underlying3 w2) trodAll_mk0))), rfl, bel.frame _, fun h => by cases h⟩

theorem over : Rows.cursorPutRow.holds Try.pinned (OpenSpec.ofChange Rows.cursorPutSpec) :=
  OpenClaim.holds_of_wide 4 Try.f4 rfl rfl rfl rfl rfl rfl rfl ⟨rfl, rfl, rfl, rfl, rfl⟩ rfl rfl rfl rfl rfl (by kernel_rfl) Try.func4 (by kernel_rfl)
    (of_decide_eq_true (by kernel_rfl)) (by unfold Func.isWrapper; first | (rw [if_pos (by decide +kernel)]; kernel_rfl) | (rw [if_neg (by decide +kernel)]; exact ⟨rfl, rfl⟩))
    (fun os started H enc _ => lifted os started H enc)

end Go.Proofs.Ytcdkphkgjimamaa.cursorPut
namespace Go.Proofs.Ytcdkphkgjimamaa
/-- The given statement. -/
theorem cursorPut_proved : Rows.CursorPutSaid := cursorPut.over
end Go.Proofs.Ytcdkphkgjimamaa
