/-
  Proved: for every byte slice b and every slice of ints l the law CursorPieces returns true, and its arguments read as before. No conditions.
-/
import Derived.Test.YtcdkphkgjimamaaRows
import Derived.Test.YtcdkphkgjimamaaCur2
import Derived.WalkKit
import Derived.ProofKit
import Derived.OpenShut
import Derived.ShutString
import Derived.ChangeOld
import Derived.Below
namespace Go.Proofs.Ytcdkphkgjimamaa.cursorPieces
open Go.ChangeShapes Go.WideShapes Go.ChangeAt Go.RowKit
open Go.ChangeMaps (open_string shut_string)
set_option linter.unusedVariables false

theorem own : ownKnob Try.prog.godebug = none := by kernel_rfl
theorem laidOut : laidOutB Try.prog = true := by kernel_rfl

set_option maxHeartbeats 1000000 in
/-- The walk: the law returns true and writes nothing that was there. -/
theorem walk (a0 : Option Addr) (len0 cap0 : Nat) (z0 : List Int) (a1 : Option Addr) (len1 cap1 : Nat) (z1 : List Int) (w : World) (w0 : IsRow .u8 w a0 len0 cap0 z0) (w1 : IsRow .i64 w a1 len1 cap1 z1) :
    Calls Try.prog 6 #[.slice a0 len0 cap0, .slice a1 len1 cap1] w fun e w' => e = .returned (.bool true) ∧ Below w.heap.size w w' := by
  obtain ⟨hs, hlen, hwf⟩ := w0.sl
  obtain ⟨hs1, hlen1, hwf1⟩ := w1.sl
  generalize z0.take len0 = xs at hs hlen hwf
  generalize z1.take len1 = ls at hs1 hlen1 hwf1
  have hbx : Byt xs := byt_of_wf hwf
  subst hlen hlen1
  have hs : SlV w (.slice a0 xs.length cap0) (U xs) := hs
  have hml := hs.len
  rw [U_length] at hml
  have hml1 := hs1.len
  rw [List.length_map] at hml1
  have hmx : (xs.length : Int) ≤ 9223372036854775807 := by unfold maxLen at hml; omega
  have hmx1 : (ls.length : Int) ≤ 9223372036854775807 := by unfold maxLen at hml1; omega
  clear w0 hwf w1
  by_cases hlong : 300 < xs.length
  · have hl' : (300 : Int) < (xs.length : Int) := by omega
    go_enter Try.func6, Try.ntmps6
    go_wp2_with (go_at_call 8; refine (alive_true _).mono ?_; rintro e w' ⟨rfl, hb⟩)
    go_ret
    exact ⟨rfl, hb⟩
  have hl' : ¬ (300 : Int) < (xs.length : Int) := by omega
  go_enter Try.func6, Try.ntmps6
  go_wp2_with fail
  refine (over_any _ xs w hs (by omega)).mono ?_
  rintro e w1 ⟨c, sv, rfl, hcw, hc1, hb1⟩
  go_wp2
  go_loopw [6, 7] (fun v i wr => ∃ j k : Nat, i = .int .i64 j ∧ j ≤ ls.length ∧ j ≤ 40 ∧ k ≤ xs.length ∧ wr.ownsRow (c + 1) 5 1 v k (U (xs.take k)) ∧ CurAt wr c sv xs k ∧ Below w.heap.size w wr) (fun _ i _ => ls.length - (intOf i).toNat)
  case atStart =>
    refine ⟨0, 0, rfl, Nat.zero_le _, by omega, Nat.zero_le _, ?_, hc1.below ((Below.refl _ _).alloc (Nat.le_refl _) _), hb1.alloc hb1.size _⟩
    exact own_empty _ _ _ hc1.lt
  case round =>
    obtain ⟨j, k, rfl, hj, hj40, hk, ho, hc, hb⟩ := hrel
    by_cases hlt : j < ls.length ∧ j < 40
    · obtain ⟨hlt, hlt40⟩ := hlt
      have d1 : decide ((j : Int) < (ls.length : Int)) = true := by simp; omega
      have hcell : ∃ b off, a1 = some ⟨b, off, none⟩ ∧ wr.cell? ⟨b, off + j, none⟩ = some (.int .i64 ls[j]) := by
        obtain ⟨a', cap', he, -, -, -, h4⟩ := hs1.below hb
        simp only [Value.slice.injEq] at he
        obtain ⟨rfl, -, -⟩ := he
        obtain ⟨b, off, rfl, h5⟩ := h4 (by rw [List.length_map]; omega)
        exact ⟨b, off, rfl, h5 j _ (by simp [hlt])⟩
      obtain ⟨b, off, rfl, hcell⟩ := hcell
      obtain ⟨n, hn⟩ : ∃ n, n = ls[j] := ⟨_, rfl⟩
      rw [← hn] at hcell
      have HN := hide hn
      clear hn
      go_wp2_with fail
      refine (take_any c sv xs k n wr hc).mono ?_
      rintro e w2 ⟨v2, rfl, ho2, hc2, hg2⟩
      have hb2 : Below w.heap.size w w2 := hb.grown hg2 hb.size (fun k e => by simp at e; omega)
      have hcell2 := (hs1.below hb2).cellAt (i := j) (u := .int .i64 n) (by rw [unhide HN]; simp [hlt])
      have ho' : w2.ownsRow (c + 1) 5 1 u6 k (U (xs.take k)) := ho.kept hg2 (.inr (fun e => by have := (ho.lt c e).1; omega))
      have hNle := takeN_le xs k n hk
      have hcase : (takeE xs k n == 0) = false ∨ ((takeE xs k n == 0) = true ∧ ((takeN xs k n : Int) != n) = false) := by
        by_cases h : takeE xs k n = 0
        · have := takeE_pos h
          refine .inr ⟨by simp [h], ?_⟩
          simp only [takeN, h, if_true]
          simp; omega
        · exact .inl (by simp [h])
      have hsz2 := hg2.size
      generalize takeN xs k n = N at ho2 hc2 hNle hcase
      generalize takeE xs k n = E at hcase ⊢
      have hclen := cut_length xs k N hNle
      have hsl2 := SlV.ofOwn ho2
      obtain ⟨av, cv, rfl, -, -⟩ := hsl2.shapeU hclen
      have HC := hide hclen
      have hcl := hc2.lt
      clear ho ho2 hc hg2 hcell hclen
      rcases hcase with hE | ⟨hE, hL⟩
      all_goals
        go_wp2_with (at_builtin; refine wpList_append_sl rfl (.tmp 49) (.tmp 50) 22 rfl (c + 1) 5 _ 1 Try.underlying22 Try.info5 rfl _ k _ rfl ho' _ (U (cut xs k N)) rfl hsl2 (U_one _) (by rw [U_length, unhide HC]; unfold maxLen; omega) (by rw [U_length, unhide HC]; omega) hcl ?_)
        intro v3 w3 ho3 hg3
        have hb3 : Below w.heap.size w w3 := hb2.grown hg3 hb2.size (fun b e => by have := (ho'.lt b e).1; omega)
        have hc3 := hc2.grown hg3 (fun b e => (ho'.lt b e).1)
        rw [← U_append, cut_take, U_length, unhide HC] at ho3
        clear hg3 hb2 hc2 ho' hsl2
        go_wp2
        exact ⟨⟨j + 1, k + N, by go_num, by omega, by omega, hNle, ho3, hc3, hb3⟩, by simp [intOf]; omega⟩
    · have d1 : decide (j < ls.length) = false ∨ (decide (j < ls.length) = true ∧ (40 : Int) ≤ (j : Int)) := by
        by_cases h : j < ls.length
        · exact .inr ⟨by simp; omega, by omega⟩
        · exact .inl (by simp; omega)
      have hxw := hs.below hb
      have hdl : (xs.drop k).length = xs.length - k := List.length_drop
      have HD := hide hdl
      clear hdl hlt
      rcases d1 with d1 | ⟨d1, d2⟩
      all_goals
        go_wp2_with fail
        refine (rest_any c sv xs k wr hc).mono ?_
        rintro e w2 ⟨v2, rfl, ho2, hc2, hg2⟩
        have hb2 : Below w.heap.size w w2 := hb.grown hg2 hb.size (fun k e => by simp at e; omega)
        have ho' : w2.ownsRow (c + 1) 5 1 u6 k (U (xs.take k)) := ho.kept hg2 (.inr (fun e => by have := (ho.lt c e).1; omega))
        have hcl := hc2.lt
        have hsl2 := SlV.ofOwn ho2
        clear ho ho2 hg2 hc
        go_wp2_with (at_builtin; refine wpList_append_sl rfl (.tmp 52) (.tmp 54) 22 rfl (c + 1) 5 _ 1 Try.underlying22 Try.info5 rfl _ k _ rfl ho' _ (U (xs.drop k)) rfl hsl2 (U_one _) (by rw [U_length, unhide HD]; unfold maxLen; omega) (by rw [U_length, unhide HD]; omega) hcl ?_)
        intro v3 w3 ho3 hg3
        have hb3 : Below w.heap.size w w3 := hb2.grown hg3 hb2.size (fun b e => by have := (ho'.lt b e).1; omega)
        rw [← U_append, List.take_append_drop] at ho3
        have hs3 := SlV.ofOwn ho3
        clear hg3 hb2 hc2 ho' hsl2 ho3
        go_wp2_with fail
        refine (alive_true _).mono ?_
        rintro e w4 ⟨rfl, hb4⟩
        have c1 := str_run (hs3.below hb4)
        have hb4 := hb3.trans (hb4.mono hb3.size)
        have c2 := str_run (hs.below hb4)
        go_wp2
        go_ret
        exact ⟨rfl, hb4⟩

set_option maxRecDepth 100000 in
theorem lifted (os : Os) (started : os.Started) (H : Type) (enc : TypeId × Value → H) :
    ReturnsInHanded {} Try.checked os 6 .any (Rows.cursorPiecesSpec.pre6 enc Try.prog Try.f6 Rows.cursorPiecesRow.domain false) (Rows.cursorPiecesSpec.post enc Try.prog Try.f6 false true false false) := by
  refine returnsInHanded_of_change (C := Try.checked) own started (by kernel_rfl) Try.func6
    (ChangeSpec.witness6 (enc := enc) (C := Try.checked) false ⟨#[], #[.slice none 0 0, .slice none 0 0], []⟩ 8 (by kernel_rfl) (by kernel_rfl) (by kernel_rfl) (by kernel_rfl)) ?_
  intro W base args ds gs before hval0 hW hcnd _
  have hval : ∀ (j : Nat) t v, Try.f6.params[j]? = some t → args[j]? = some v → Value.okWide Try.prog W .any base t v := hval0
  have hW' := hW
  obtain ⟨p, q, hA0, hV, rfl, hfz, hnd⟩ := hW
  have hA : DataW.TrodAll enc Try.prog W 0 (fun _ => true) true Try.f6.params.toList args.toList ds p := hA0
  rw [Try.params6] at hA hval
  obtain ⟨v0, vs0, d0, ds0, p0, q0, hargs, rfl, rfl, h0, r0⟩ := trodAll_cons hA
  obtain ⟨v1, vs1, d1, ds1, p1, q1, rfl, rfl, rfl, h1, r1⟩ := trodAll_cons r0
  obtain ⟨rfl, rfl, rfl⟩ := trodAll_nil r1
  obtain rfl : args = #[v0, v1] := by cases args; simp_all
  obtain ⟨rfl, rfl⟩ := trodVars_none hV
  obtain ⟨a0, len0, cap0, rfl⟩ := okWide_slice Try.underlying22 (hval 0 22 v0 rfl rfl)
  have k0 := h0
  have lt0 : ∀ x ∈ p0, x.block < W.heap.size := by obtain ⟨m, hm⟩ := k0; exact DataW.trod_lt m _ _ _ hm
  obtain ⟨z0, w0⟩ : ∃ zs, IsRow .u8 W a0 len0 cap0 zs := by
    obtain ⟨fuel, hf⟩ := h0
    rcases open_ints Try.underlying22 Try.underlying5 (by kernel_rfl) hf with ⟨hcs, _⟩ | ⟨x, l, c, zs, hcs, _, hl, hm, hz, _, hcell, hwz⟩
    · simp [Value.cells] at hcs
      obtain ⟨rfl, rfl, rfl⟩ := hcs
      exact ⟨[], .inl ⟨rfl, rfl, rfl, rfl⟩⟩
    · simp [Value.cells] at hcs
      obtain ⟨rfl, rfl, rfl⟩ := hcs
      exact ⟨zs, .inr ⟨_, rfl, hl, hm, by simpa using hz, hcell, hwz⟩⟩
  obtain ⟨a1, len1, cap1, rfl⟩ := okWide_slice Try.underlying50 (hval 1 50 v1 rfl rfl)
  have k1 := h1
  have lt1 : ∀ x ∈ p1, x.block < W.heap.size := by obtain ⟨m, hm⟩ := k1; exact DataW.trod_lt m _ _ _ hm
  obtain ⟨z1, w1⟩ : ∃ zs, IsRow .i64 W a1 len1 cap1 zs := by
    obtain ⟨fuel, hf⟩ := h1
    rcases open_ints Try.underlying50 Try.underlying3 (by kernel_rfl) hf with ⟨hcs, _⟩ | ⟨x, l, c, zs, hcs, _, hl, hm, hz, _, hcell, hwz⟩
    · simp [Value.cells] at hcs
      obtain ⟨rfl, rfl, rfl⟩ := hcs
      exact ⟨[], .inl ⟨rfl, rfl, rfl, rfl⟩⟩
    · simp [Value.cells] at hcs
      obtain ⟨rfl, rfl, rfl⟩ := hcs
      exact ⟨zs, .inr ⟨_, rfl, hl, hm, by simpa using hz, hcell, hwz⟩⟩
  clear hA0 hval0
  refine (walk a0 len0 cap0 z0 a1 len1 cap1 z1 W w0 w1).mono fun e W' ⟨he, bel⟩ => ?_
  subst he
  exact ⟨_, rfl, _, _, _, [], _, [], hW', trodAll_mk1 (shut_bool Try.underlying4 _), (trodAll_cons_mk (Below.trod laidOut (by kernel_rfl) (of_decide_eq_true (by kernel_rfl)) k0 bel lt0) (trodAll_cons_mk (Below.trod laidOut (by kernel_rfl) (of_decide_eq_true (by kernel_rfl)) k1 bel lt1) trodAll_mk0)), rfl, bel.frame _, fun h => by cases h⟩

theorem over : Rows.cursorPiecesRow.holds Try.pinned (OpenSpec.ofChange Rows.cursorPiecesSpec) :=
  OpenClaim.holds_of_wide 6 Try.f6 rfl rfl rfl rfl rfl rfl rfl ⟨rfl, rfl, rfl, rfl, rfl⟩ rfl rfl rfl rfl rfl (by kernel_rfl) Try.func6 (by kernel_rfl)
    (of_decide_eq_true (by kernel_rfl)) (by unfold Func.isWrapper; first | (rw [if_pos (by decide +kernel)]; kernel_rfl) | (rw [if_neg (by decide +kernel)]; exact ⟨rfl, rfl⟩))
    (fun os started H enc _ => lifted os started H enc)

end Go.Proofs.Ytcdkphkgjimamaa.cursorPieces
namespace Go.Proofs.Ytcdkphkgjimamaa
/-- The given statement. -/
theorem cursorPieces_proved : Rows.CursorPiecesSaid := cursorPieces.over
end Go.Proofs.Ytcdkphkgjimamaa
