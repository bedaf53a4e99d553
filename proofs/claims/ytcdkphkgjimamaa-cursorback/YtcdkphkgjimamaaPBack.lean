/-
  Proved: for every uint64 n, every int width and every byte slice the law CursorBack returns true, and its arguments read as before. No conditions.
-/
import Derived.Test.YtcdkphkgjimamaaRows
import Derived.Test.YtcdkphkgjimamaaCur2
import Derived.WalkKit
import Derived.ProofKit
import Derived.OpenShut
import Derived.ShutString
import Derived.ChangeOld
import Derived.Below
namespace Go.Proofs.Ytcdkphkgjimamaa.cursorBack
open Go.ChangeShapes Go.WideShapes Go.ChangeAt Go.RowKit
open Go.ChangeMaps (open_string shut_string)
set_option linter.unusedVariables false

theorem own : ownKnob Try.prog.godebug = none := by kernel_rfl
theorem laidOut : laidOutB Try.prog = true := by kernel_rfl

set_option maxHeartbeats 2000000 in
/-- The walk: the law returns true and writes nothing that was there. -/
theorem walk (a0 : Int) (a1 : Int) (a2 : Option Addr) (len2 cap2 : Nat) (z2 : List Int) (w : World) (w0 : (Lit.int .u64 a0).wf = true) (w1 : (Lit.int .i64 a1).wf = true) (w2 : IsRow .u8 w a2 len2 cap2 z2) :
    Calls Try.prog 5 #[.int .u64 a0, .int .i64 a1, .slice a2 len2 cap2] w fun e w' => e = .returned (.bool true) ∧ Below w.heap.size w w' := by
  obtain ⟨hs, hlen, hwf⟩ := w2.sl
  generalize z2.take len2 = xs at hs hlen hwf
  have hbx : Byt xs := byt_of_wf hwf
  subst hlen
  have hs : SlV w (.slice a2 xs.length cap2) (U xs) := hs
  have hml := hs.len
  rw [U_length] at hml
  have hmx : (xs.length : Int) ≤ 9223372036854775807 := by unfold maxLen at hml; omega
  have hn : 0 ≤ a0 ∧ a0 < 18446744073709551616 := by
    simp [Lit.wf, IntKind.min, IntKind.max, IntKind.signed, IntKind.bits] at w0; omega
  obtain ⟨h0, hn⟩ := hn
  clear w0 hwf w1 w2
  by_cases hlong : 300 < xs.length
  · have hl' : (300 : Int) < (xs.length : Int) := by omega
    go_enter Try.func5, Try.ntmps5
    go_wp2_with (go_at_call 8; refine (alive_true _).mono ?_; rintro e w' ⟨rfl, hb⟩)
    go_ret
    exact ⟨rfl, hb⟩
  have hl' : ¬ (300 : Int) < (xs.length : Int) := by omega
  by_cases hg : putGood a0 a1 = true
  case neg =>
    have hg' := fun k => hg ((putGood_iff a0 a1).2 k)
    go_enter Try.func5, Try.ntmps5
    go_wp2_with (first
      | (go_at_call 19; refine (put_bad _ a0 a1 _ h0 hn hg').mono ?_; rintro e w' ⟨rfl, rfl⟩)
      | (go_at_call 8; refine (alive_true _).mono ?_; rintro e w' ⟨rfl, hb⟩))
    go_ret
    exact ⟨rfl, hb⟩
  case pos =>
    obtain ⟨h1, h8, hf⟩ := (putGood_iff a0 a1).1 hg
    obtain ⟨m, rfl⟩ := Int.eq_ofNat_of_zero_le (show 0 ≤ a1 by omega)
    have hnum := num_be_fits a0 m hf
    clear hg
    go_enter Try.func5, Try.ntmps5
    go_wp2_with fail
    refine (put_ok _ [] a0 m w (SlV.nil w) (by simp) h0 hn h1 h8 hf).mono ?_
    rintro e w3 ⟨v3, rfl, ho3, hb3⟩
    have hs3 := SlV.ofOwn ho3
    clear ho3
    simp only [List.nil_append, Int.toNat_natCast] at hs3
    have hlb := be_length a0 m
    have hbb := be_byt a0 m
    obtain ⟨ys, hys⟩ : ∃ ys, ys = be a0 m := ⟨_, rfl⟩
    rw [← hys] at hs3 hnum hlb hbb
    clear hys hf
    obtain ⟨av, cv, rfl, -, -⟩ := hs3.shapeU hlb
    have HL := hide hlb
    have HN := hide hnum
    clear hlb hnum
    go_wp2_with (at_builtin; refine wpList_append_sl rfl (.tmp 31) (.tmp 32) 22 rfl w.heap.size 5 _ 1 Try.underlying22 Try.info5 rfl _ 0 [] rfl (own_empty _ _ _ hb3.size) _ (U ys) rfl (by exact hs3.below ((Below.refl _ _).alloc (Nat.le_refl _) _)) (U_one _) (by rw [U_length, unhide HL]; unfold maxLen; omega) (by rw [U_length, unhide HL]; omega) (by simp; exact Nat.le_succ_of_le hb3.size) ?_)
    intro v4 w4 ho4 hg4
    have hb34 : Below w3.heap.size w3 w4 := ((Below.refl _ _).alloc (Nat.le_refl _) _).grown hg4 (by simp) (by simp [Value.ownBlock])
    have hb4 := hb3.trans (hb34.mono hb3.size)
    have hs4 := hs3.below hb34
    have ho4 : w4.ownsRow w.heap.size 5 1 v4 (0 + m) (U ys) := by rw [U_length, unhide HL] at ho4; simpa using ho4
    have hx4 := hs.below hb4
    clear hg4 hb34 hs3 hb3
    go_wp2_with (at_builtin; refine wpList_append_sl rfl (.tmp 34) (.tmp 35) 22 rfl w.heap.size 5 _ 1 Try.underlying22 Try.info5 rfl _ (0 + m) _ rfl ho4 _ (U xs) rfl hx4 (U_one _) (by rw [U_length]; unfold maxLen; omega) (by rw [U_length]; omega) hb4.size ?_)
    intro v5 w5 ho5 hg5
    have hb5 : Below w.heap.size w w5 := hb4.grown hg5 hb4.size (fun k e => (ho4.lt k e).1)
    have hs5 : SlV w5 v5 (U (ys ++ xs)) := by rw [U_append]; exact SlV.ofOwn ho5
    clear ho4 ho5 hg5 hb4 hx4 hs4
    have hll : (ys ++ xs).length = m + xs.length := by rw [List.length_append, unhide HL]
    go_wp2_with fail
    refine (over_any v5 (ys ++ xs) w5 hs5 (by rw [hll]; omega)).mono ?_
    rintro e w6 ⟨c, sv, rfl, hcw, hc6, hb56⟩
    have hb6 := hb5.trans (hb56.mono hb5.size)
    have hcw' : w.heap.size ≤ c := Nat.le_trans hb5.size hcw
    have HLL := hide hll
    clear hb5 hb56 hs5 hll hcw
    go_wp2_with fail
    refine (number_ok c sv (ys ++ xs) 0 m w6 hc6 (hbb.append hbx) (by omega) (by omega) (by rw [unhide HLL]; omega)).mono ?_
    rintro e w7 ⟨rfl, hc7, hg7⟩
    have hb7 : Below w.heap.size w w7 := hb6.grown hg7 hb6.size (fun k e => by simp at e; omega)
    have ecut : cut (ys ++ xs) 0 m = ys := by simp [cut, ← unhide HL]
    rw [ecut, unhide HN]
    have hx7 := hs.below hb7
    clear ecut hb6 hg7 hc6
    go_wp2
    have cx7 := str_run hx7
    have hc7 : CurAt w7.drew c sv (ys ++ xs) m := by have := hc7.below ((Below.refl _ _).drew); rwa [Nat.zero_add] at this
    clear hx7
    have edrop : (ys ++ xs).drop m = xs := by rw [← unhide HL]; simp
    have HD := hide edrop
    clear edrop
    refine wp_region_noPanic ?_
    refine wp_region_held_drew (S := fun w' => Below w.heap.size w w' ∧ (convert 22 9 (.slice a2 xs.length cap2)).run Try.prog w' = .ok (.string (strOfNums xs)) w') (by kernel_rfl) (⟨hb7.drew, str_run (hs.below hb7.drew)⟩) (fun hHeld => ?_)
    refine allReadyH_oneL (i := 0) (by kernel_rfl) rfl (by rfl) (fun K hK => ?_)
    go_simp
    refine (alive_true _).mono ?_
    rintro e w8 ⟨rfl, hb8⟩
    have hc8 := hc7.below hb8
    have hb8 := hb7.drew.trans (hb8.mono hb7.size)
    have cx8 := str_run (hs.below hb8)
    refine hK.out _ _ (⟨hb8, cx8⟩) (fun hHeld => ?_)
    clear hK K
    refine wpAnyH_takeL (i := 1) (v := ?v1) rfl (by kernel_rfl) (by kernel_rfl) (by kernel_rfl) (fun _ _ _ h => h) (by rfl) ?h1 (by assumption) ?_
    case h1 => intro w hSw; go_simp <;> with_reducible rfl
    simp only [Act.put, List.setIfInBounds_toArray, List.set_cons_zero, List.set_cons_succ]
    refine wpAnyH_takeL (i := 2) (v := ?v2) rfl (by kernel_rfl) (by kernel_rfl) (by kernel_rfl) (fun _ _ _ h => h) (by rfl) ?h2 (by assumption) ?_
    case h2 => intro w hSw; go_simp <;> with_reducible rfl
    simp only [Act.put, List.setIfInBounds_toArray, List.set_cons_zero, List.set_cons_succ]
    refine wpAnyH_takeL (i := 3) (v := ?v3) rfl (by kernel_rfl) (by kernel_rfl) (by kernel_rfl) (fun _ _ _ h => h) (by rfl) ?h3 (by assumption) ?_
    case h3 => intro w hSw; go_simp <;> with_reducible rfl
    simp only [Act.put, List.setIfInBounds_toArray, List.set_cons_zero, List.set_cons_succ]
    refine wpAnyH_takeL (i := 4) (v := ?v4) rfl (by kernel_rfl) (by kernel_rfl) (by kernel_rfl) (fun _ _ _ h => h) (by rfl) ?h4 (by assumption) ?_
    case h4 => intro w hSw; go_simp <;> with_reducible rfl
    simp only [Act.put, List.setIfInBounds_toArray, List.set_cons_zero, List.set_cons_succ]
    refine wpAnyH_takeL (i := 5) (v := ?v5) rfl (by kernel_rfl) (by kernel_rfl) (by kernel_rfl) (fun _ _ _ h => h) (by rfl) ?h5 (by assumption) ?_
    case h5 => intro w hSw; go_simp <;> with_reducible rfl
    simp only [Act.put, List.setIfInBounds_toArray, List.set_cons_zero, List.set_cons_succ]
    refine wpAnyH_takeL (i := 6) (v := ?v6) rfl (by kernel_rfl) (by kernel_rfl) (by kernel_rfl) (fun _ _ _ h => h) (by rfl) ?h6 (by assumption) ?_
    case h6 => intro w hSw; go_simp <;> with_reducible rfl
    simp only [Act.put, List.setIfInBounds_toArray, List.set_cons_zero, List.set_cons_succ]
    refine wpAnyH_takeL (i := 7) (v := ?v7) rfl (by kernel_rfl) (by kernel_rfl) (by kernel_rfl) (fun _ _ _ h => h) (by rfl) ?h7 (by assumption) ?_
    case h7 => intro w hSw; go_simp <;> with_reducible rfl
    simp only [Act.put, List.setIfInBounds_toArray, List.set_cons_zero, List.set_cons_succ]
    refine wpAnyH_takeL (i := 8) (v := ?v8) rfl (by kernel_rfl) (by kernel_rfl) (by kernel_rfl) (fun _ _ _ h => h) (by rfl) ?h8 (by assumption) ?_
    case h8 => intro w hSw; go_simp <;> with_reducible rfl
    simp only [Act.put, List.setIfInBounds_toArray, List.set_cons_zero, List.set_cons_succ]
    refine wpAnyH_takeL (i := 9) (v := ?v9) rfl (by kernel_rfl) (by kernel_rfl) (by kernel_rfl) (fun _ _ _ h => h) (by rfl) ?h9 (by assumption) ?_
    case h9 => intro w hSw; go_simp <;> with_reducible rfl
    simp only [Act.put, List.setIfInBounds_toArray, List.set_cons_zero, List.set_cons_succ]
    refine wpAnyH_takeL (i := 10) (v := ?v10) rfl (by kernel_rfl) (by kernel_rfl) (by kernel_rfl) (fun _ _ _ h => h) (by rfl) ?h10 (by assumption) ?_
    case h10 => intro w hSw; go_simp <;> with_reducible rfl
    simp only [Act.put, List.setIfInBounds_toArray, List.set_cons_zero, List.set_cons_succ]
    refine wpAnyH_takeL (i := 11) (v := ?v11) rfl (by kernel_rfl) (by kernel_rfl) (by kernel_rfl) (fun _ _ _ h => h) (by rfl) ?h11 (by assumption) ?_
    case h11 => intro w hSw; go_simp <;> with_reducible rfl
    simp only [Act.put, List.setIfInBounds_toArray, List.set_cons_zero, List.set_cons_succ]
    refine wpAnyH_takeL (i := 12) (v := ?v12) rfl (by kernel_rfl) (by kernel_rfl) (by kernel_rfl) (fun _ _ _ h => h) (by rfl) ?h12 (by assumption) ?_
    case h12 => intro w hSw; go_simp <;> with_reducible rfl
    simp only [Act.put, List.setIfInBounds_toArray, List.set_cons_zero, List.set_cons_succ]
    refine wpAnyH_takeL (i := 13) (v := ?v13) rfl (by kernel_rfl) (by kernel_rfl) (by kernel_rfl) (fun _ _ _ h => h) (by rfl) ?h13 (by assumption) ?_
    case h13 => intro w hSw; go_simp <;> with_reducible rfl
    simp only [Act.put, List.setIfInBounds_toArray, List.set_cons_zero, List.set_cons_succ]
    refine wpAnyH_takeL (i := 14) (v := ?v14) rfl (by kernel_rfl) (by kernel_rfl) (by kernel_rfl) (fun _ _ _ h => h) (by rfl) ?h14 (by assumption) ?_
    case h14 => intro w hSw; go_simp <;> with_reducible rfl
    simp only [Act.put, List.setIfInBounds_toArray, List.set_cons_zero, List.set_cons_succ]
    refine wpAnyH_takeL (i := 15) (v := ?v15) rfl (by kernel_rfl) (by kernel_rfl) (by kernel_rfl) (fun _ _ _ h => h) (by rfl) ?h15 (by assumption) ?_
    case h15 => intro w hSw; go_simp <;> with_reducible rfl
    simp only [Act.put, List.setIfInBounds_toArray, List.set_cons_zero, List.set_cons_succ]
    refine wpAnyH_takeL (i := 16) (v := ?v16) rfl (by kernel_rfl) (by kernel_rfl) (by kernel_rfl) (fun _ _ _ h => h) (by rfl) ?h16 (by assumption) ?_
    case h16 => intro w hSw; go_simp <;> with_reducible rfl
    simp only [Act.put, List.setIfInBounds_toArray, List.set_cons_zero, List.set_cons_succ]
    refine wpAnyH_takeL (i := 17) (v := ?v17) rfl (by kernel_rfl) (by kernel_rfl) (by kernel_rfl) (fun _ _ _ h => h) (by rfl) ?h17 (by assumption) ?_
    case h17 => intro w hSw; go_simp <;> with_reducible rfl
    simp only [Act.put, List.setIfInBounds_toArray, List.set_cons_zero, List.set_cons_succ]
    refine wpAnyH_takeL (i := 20) (v := ?v20) rfl (by kernel_rfl) (by kernel_rfl) (by kernel_rfl) (fun _ _ _ h => h) (by rfl) ?h20 (by assumption) ?_
    case h20 => intro w hSw; go_simp <;> with_reducible rfl
    simp only [Act.put, List.setIfInBounds_toArray, List.set_cons_zero, List.set_cons_succ]
    refine wpAnyH_takeL (i := 21) (v := ?v21) rfl (by kernel_rfl) (by kernel_rfl) (by kernel_rfl) (fun _ _ _ h => h) (by rfl) ?h21 (by assumption) ?_
    case h21 => intro w hSw; go_simp <;> with_reducible rfl
    simp only [Act.put, List.setIfInBounds_toArray, List.set_cons_zero, List.set_cons_succ]
    refine allReadyH_oneL (i := 18) (by kernel_rfl) rfl (by rfl) (fun K hK => ?_)
    go_simp
    refine (rest_any c sv (ys ++ xs) m _ hc8).mono ?_
    rintro e w9 ⟨v9, rfl, ho9, hc9, hg9⟩
    have hb9 := hb8.grown hg9 hb8.size (fun k e => by simp at e; omega)
    have cx9 := str_run (hs.below hb9)
    rw [unhide HD] at ho9
    have cv9 := str_run (SlV.ofOwn ho9)
    refine hK.out _ _ (⟨hb9, cx9⟩) (fun hHeld => ?_)
    clear hK K
    refine allReadyH_oneL (i := 19) (by kernel_rfl) rfl (by rfl) (fun K hK => ?_)
    go_simp
    refine hK.out _ _ (⟨hb9, cx9⟩) (fun hHeld => ?_)
    clear hK K
    refine wpAnyH_takeL (i := 22) (v := ?v22) rfl (by kernel_rfl) (by kernel_rfl) (by kernel_rfl) (fun _ _ _ h => h) (by rfl) ?h22 (by assumption) ?_
    case h22 => intro w hSw; go_simp <;> with_reducible rfl
    simp only [Act.put, List.setIfInBounds_toArray, List.set_cons_zero, List.set_cons_succ]
    refine wpAnyH_takeL (i := 23) (v := ?v23) rfl (by kernel_rfl) (by kernel_rfl) (by kernel_rfl) (fun _ _ _ h => h) (by rfl) ?h23 (by assumption) ?_
    case h23 => intro w hSw; go_simp <;> with_reducible rfl
    simp only [Act.put, List.setIfInBounds_toArray, List.set_cons_zero, List.set_cons_succ]
    refine wpAnyH_takeL (i := 24) (v := ?v24) rfl (by kernel_rfl) (by kernel_rfl) (by kernel_rfl) (fun _ _ _ h => h) (by rfl) ?h24 (by assumption) ?_
    case h24 => intro w hSw; go_simp <;> with_reducible rfl
    simp only [Act.put, List.setIfInBounds_toArray, List.set_cons_zero, List.set_cons_succ]
    refine wpAnyH_takeL (i := 25) (v := ?v25) rfl (by kernel_rfl) (by kernel_rfl) (by kernel_rfl) (fun _ _ _ h => h) (by rfl) ?h25 (by assumption) ?_
    case h25 => intro w hSw; go_simp <;> with_reducible rfl
    simp only [Act.put, List.setIfInBounds_toArray, List.set_cons_zero, List.set_cons_succ]
    refine allReadyH_oneL (i := 26) (by kernel_rfl) rfl (by rfl) (fun K hK => ?_)
    go_simp
    refine (left_any c sv (ys ++ xs) _ _ hc9).mono ?_
    rw [Int.sub_self]
    rintro e w10 ⟨rfl, hb10, -⟩
    have hb10 := hb9.trans (hb10.mono hb9.size)
    have cx10 := str_run (hs.below hb10)
    refine hK.out _ _ (⟨hb10, cx10⟩) (fun hHeld => ?_)
    clear hK K
    refine wpAnyH_takeL (i := 27) (v := ?v27) rfl (by kernel_rfl) (by kernel_rfl) (by kernel_rfl) (fun _ _ _ h => h) (by rfl) ?h27 (by assumption) ?_
    case h27 => intro w hSw; go_simp <;> with_reducible rfl
    simp only [Act.put, List.setIfInBounds_toArray, List.set_cons_zero, List.set_cons_succ]
    refine wpAnyH_takeL (i := 28) (v := ?v28) rfl (by kernel_rfl) (by kernel_rfl) (by kernel_rfl) (fun _ _ _ h => h) (by rfl) ?h28 (by assumption) ?_
    case h28 => intro w hSw; go_simp <;> with_reducible rfl
    simp only [Act.put, List.setIfInBounds_toArray, List.set_cons_zero, List.set_cons_succ]
    refine wpAnyH_takeL (i := 29) (v := ?v29) rfl (by kernel_rfl) (by kernel_rfl) (by kernel_rfl) (fun _ _ _ h => h) (by rfl) ?h29 (by assumption) ?_
    case h29 => intro w hSw; go_simp <;> with_reducible rfl
    simp only [Act.put, List.setIfInBounds_toArray, List.set_cons_zero, List.set_cons_succ]
    refine wpAnyH_done (by kernel_rfl) ?_ _
    refine NoPanic.normal ?_
    go_wp2
    go_ret
    exact ⟨rfl, hb10⟩

set_option maxRecDepth 100000 in
theorem lifted (os : Os) (started : os.Started) (H : Type) (enc : TypeId × Value → H) :
    ReturnsInHanded {} Try.checked os 5 .any (Rows.cursorBackSpec.pre6 enc Try.prog Try.f5 Rows.cursorBackRow.domain false) (Rows.cursorBackSpec.post enc Try.prog Try.f5 false true false false) := by
  refine returnsInHanded_of_change (C := Try.checked) own started (by kernel_rfl) Try.func5
    (ChangeSpec.witness6 (enc := enc) (C := Try.checked) false ⟨#[], #[.int .u64 0, .int .i64 0, .slice none 0 0], []⟩ 8 (by kernel_rfl) (by kernel_rfl) (by kernel_rfl) (by kernel_rfl)) ?_
  intro W base args ds gs before hval0 hW hcnd _
  have hval : ∀ (j : Nat) t v, Try.f5.params[j]? = some t → args[j]? = some v → Value.okWide Try.prog W .any base t v := hval0
  have hW' := hW
  obtain ⟨p, q, hA0, hV, rfl, hfz, hnd⟩ := hW
  have hA : DataW.TrodAll enc Try.prog W 0 (fun _ => true) true Try.f5.params.toList args.toList ds p := hA0
  rw [Try.params5] at hA hval
  obtain ⟨v0, vs0, d0, ds0, p0, q0, hargs, rfl, rfl, h0, r0⟩ := trodAll_cons hA
  obtain ⟨v1, vs1, d1, ds1, p1, q1, rfl, rfl, rfl, h1, r1⟩ := trodAll_cons r0
  obtain ⟨v2, vs2, d2, ds2, p2, q2, rfl, rfl, rfl, h2, r2⟩ := trodAll_cons r1
  obtain ⟨rfl, rfl, rfl⟩ := trodAll_nil r2
  obtain rfl : args = #[v0, v1, v2] := by cases args; simp_all
  obtain ⟨rfl, rfl⟩ := trodVars_none hV
  obtain ⟨a0, rfl, rfl, rfl, w0⟩ := open_int Try.underlying31 (hval 0 31 v0 rfl rfl) h0
  obtain ⟨a1, rfl, rfl, rfl, w1⟩ := open_int Try.underlying3 (hval 1 3 v1 rfl rfl) h1
  obtain ⟨a2, len2, cap2, rfl⟩ := okWide_slice Try.underlying22 (hval 2 22 v2 rfl rfl)
  have k2 := h2
  have lt2 : ∀ x ∈ p2, x.block < W.heap.size := by obtain ⟨m, hm⟩ := k2; exact DataW.trod_lt m _ _ _ hm
  obtain ⟨z2, w2⟩ : ∃ zs, IsRow .u8 W a2 len2 cap2 zs := by
    obtain ⟨fuel, hf⟩ := h2
    rcases open_ints Try.underlying22 Try.underlying5 (by kernel_rfl) hf with ⟨hcs, _⟩ | ⟨x, l, c, zs, hcs, _, hl, hm, hz, _, hcell, hwz⟩
    · simp [Value.cells] at hcs
      obtain ⟨rfl, rfl, rfl⟩ := hcs
      exact ⟨[], .inl ⟨rfl, rfl, rfl, rfl⟩⟩
    · simp [Value.cells] at hcs
      obtain ⟨rfl, rfl, rfl⟩ := hcs
      exact ⟨zs, .inr ⟨_, rfl, hl, hm, by simpa using hz, hcell, hwz⟩⟩
  clear hA0 hval0
  refine (walk a0 a1 a2 len2 cap2 z2 W w0 w1 w2).mono fun e W' ⟨he, bel⟩ => ?_
  subst he
  exact ⟨_, rfl, _, _, _, [], _, [], hW', trodAll_mk1 (shut_bool Try.underlying4 _), (trodAll_cons_mk (shut_int Try.underlying31 w0) (trodAll_cons_mk (shut_int Try.underlying3 w1) (trodAll_cons_mk (Below.trod laidOut (by kernel_rfl) (of_decide_eq_true (by kernel_rfl)) k2 bel lt2) trodAll_mk0))), rfl, bel.frame _, fun h => by cases h⟩

theorem over : Rows.cursorBackRow.holds Try.pinned (OpenSpec.ofChange Rows.cursorBackSpec) :=
  OpenClaim.holds_of_wide 5 Try.f5 rfl rfl rfl rfl rfl rfl rfl ⟨rfl, rfl, rfl, rfl, rfl⟩ rfl rfl rfl rfl rfl (by kernel_rfl) Try.func5 (by kernel_rfl)
    (of_decide_eq_true (by kernel_rfl)) (by unfold Func.isWrapper; first | (rw [if_pos (by decide +kernel)]; kernel_rfl) | (rw [if_neg (by decide +kernel)]; exact ⟨rfl, rfl⟩))
    (fun os started H enc _ => lifted os started H enc)

end Go.Proofs.Ytcdkphkgjimamaa.cursorBack
namespace Go.Proofs.Ytcdkphkgjimamaa
/-- The given statement. -/
theorem cursorBack_proved : Rows.CursorBackSaid := cursorBack.over
end Go.Proofs.Ytcdkphkgjimamaa
