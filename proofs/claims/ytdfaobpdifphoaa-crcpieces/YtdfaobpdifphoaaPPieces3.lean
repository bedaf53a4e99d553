/-
  Proved: for every two byte slices a and b the law CrcPieces returns true, and both read as before. No conditions.
-/
import Derived.Test.YtdfaobpdifphoaaRows
import Derived.Test.YtdfaobpdifphoaaCrcB
import Derived.WalkKit
import Derived.ProofKit
import Derived.OpenShut
import Derived.ShutString
import Derived.ChangeOld
import Derived.Below
namespace Go.Proofs.Ytdfaobpdifphoaa.crcPieces
open Go.ChangeShapes Go.WideShapes Go.ChangeAt Go.RowKit
open Go.ChangeMaps (open_string shut_string)
set_option linter.unusedVariables false

theorem own : ownKnob Try.prog.godebug = none := by kernel_rfl
theorem laidOut : laidOutB Try.prog = true := by kernel_rfl

set_option maxHeartbeats 400000 in
/-- The walk: the law returns true and writes nothing that was there. -/
theorem walk (a0 : Option Addr) (len0 cap0 : Nat) (z0 : List Int) (a1 : Option Addr) (len1 cap1 : Nat) (z1 : List Int) (w : World) (w0 : IsRow .u8 w a0 len0 cap0 z0) (w1 : IsRow .u8 w a1 len1 cap1 z1) :
    Calls Try.prog 5 #[.slice a0 len0 cap0, .slice a1 len1 cap1] w fun e w' => e = .returned (.bool true) ∧ Below w.heap.size w w' := by
  obtain ⟨hs, hlen, hwf⟩ := w0.sl
  generalize z0.take len0 = xs at hs hlen hwf
  have hbx : Byt xs := byt_of_wf hwf
  subst hlen
  have hs : SlV w (.slice a0 xs.length cap0) (U xs) := hs
  have hml := hs.len
  rw [U_length] at hml
  have hmx : (xs.length : Int) ≤ 9223372036854775807 := by unfold maxLen at hml; omega
  obtain ⟨ht, hlen, hwf'⟩ := w1.sl
  generalize z1.take len1 = ys at ht hlen hwf'
  have hby : Byt ys := byt_of_wf hwf'
  subst hlen
  have ht : SlV w (.slice a1 ys.length cap1) (U ys) := ht
  have hnl := ht.len
  rw [U_length] at hnl
  have hmy : (ys.length : Int) ≤ 9223372036854775807 := by unfold maxLen at hnl; omega
  clear w0 w1 hwf hwf'
  by_cases h1 : 300 < (xs.length : Int)
  · go_enter Try.func5, Try.ntmps5
    go_wp2_with (go_at_call 7; refine (alive_true _).mono ?_; rintro e w' ⟨rfl, hb⟩)
    go_ret
    exact ⟨rfl, hb⟩
  by_cases h2 : 300 < (ys.length : Int)
  · go_enter Try.func5, Try.ntmps5
    go_wp2_with (go_at_call 7; refine (alive_true _).mono ?_; rintro e w' ⟨rfl, hb⟩)
    go_ret
    exact ⟨rfl, hb⟩
  have hA : Below w.heap.size w (w.alloc (.cells #[] 5)) := (Below.refl _ _).alloc (Nat.le_refl _) _
  have hsA := hs.below hA
  have hoA := own_empty w w.heap.size 5 (Nat.le_refl _)
  go_enter Try.func5, Try.ntmps5
  go_wp2_with (at_builtin; refine wpList_append_sl rfl (.tmp 15) (.tmp 16) 23 rfl w.heap.size 5 _ 1 Try.underlying23 Try.info5 rfl _ 0 [] rfl hoA _ (U xs) rfl hsA (U_one _) (by rw [U_length]; unfold maxLen; omega) (by rw [U_length]; omega) hA.size ?_)
  intro v1 w1 ho1 hg1
  have hb1 : Below w.heap.size w w1 := hA.grown hg1 hA.size (fun k hk => (hoA.lt k hk).1)
  have ho1 : w1.ownsRow w.heap.size 5 1 v1 xs.length (U xs) := by simpa [U_length] using ho1
  clear hg1 hoA hsA hA
  have ht1 := ht.below hb1
  go_wp2_with (at_builtin; refine wpList_append_sl rfl (.tmp 18) (.tmp 19) 23 rfl w.heap.size 5 _ 1 Try.underlying23 Try.info5 rfl _ xs.length (U xs) rfl ho1 _ (U ys) rfl ht1 (U_one _) (by rw [U_length]; unfold maxLen; omega) (by rw [U_length]; omega) hb1.size ?_)
  intro v2 w2 ho2 hg2
  have hb2 : Below w.heap.size w w2 := hb1.grown hg2 hb1.size (fun k hk => (ho1.lt k hk).1)
  have ho2 : w2.ownsRow w.heap.size 5 1 v2 (xs ++ ys).length (U (xs ++ ys)) := by simpa [U_length, U_append] using ho2
  clear hg2 ho1 ht1 hb1
  go_wp2_with fail
  refine (alive_true _).mono ?_
  rintro e w3 ⟨rfl, hb3⟩
  have ho3 := own_below ho2 hb3
  have hb3 := hb2.trans (hb3.mono hb2.size)
  clear ho2 hb2
  have hs3 := hs.below hb3
  have ht3 := ht.below hb3
  have HS := Away.mk (go_lt (c := 11994318) (by decide) (nats_lt hbx))
  have HP := Away.mk (go_append 11994318 (nats xs) (nats ys))
  rw [← nats_append] at HP
  have HL := Away.mk (Nat.mod_eq_of_lt HS.out)
  go_wp2_with fail
  refine (sum_any _ xs w3 hs3 hbx).mono ?_
  rintro e w4 ⟨rfl, rfl⟩
  go_wp2_with fail
  refine (more_any _ (Nat.lt_trans HS.out (by decide)) _ ys w3 ht3 hby).mono ?_
  rintro e w4 ⟨rfl, rfl⟩
  go_wp2_with fail
  refine (sum_any v2 (xs ++ ys) w3 (SlV.ofOwn ho3) (hbx.append hby)).mono ?_
  rintro e w4 ⟨rfl, rfl⟩
  rw [HL.out, HP.out]
  generalize go (go 11994318 (nats xs)) (nats ys) = s1
  go_wp2_with fail
  refine (sum_any _ xs w3 hs3 hbx).mono ?_
  rintro e w4 ⟨rfl, rfl⟩
  go_wp2_with fail
  refine (more_any _ (Nat.lt_trans HS.out (by decide)) _ [] w3 (SlV.nil w3) Byt.nil).mono ?_
  rintro e w4 ⟨rfl, rfl⟩
  go_wp2_with fail
  refine (sum_any _ xs w3 hs3 hbx).mono ?_
  rintro e w4 ⟨rfl, rfl⟩
  rw [HL.out, show nats [] = [] from rfl, go_nil]
  clear HL HP HS
  generalize go 11994318 (nats xs) = s2
  go_wp2
  go_ret
  exact ⟨rfl, hb3⟩

set_option maxRecDepth 100000 in
theorem lifted (os : Os) (started : os.Started) (H : Type) (enc : TypeId × Value → H) :
    ReturnsInHanded {} Try.checked os 5 .any (Rows.crcPiecesSpec.pre6 enc Try.prog Try.f5 Rows.crcPiecesRow.domain false) (Rows.crcPiecesSpec.post enc Try.prog Try.f5 false true false false) := by
  refine returnsInHanded_of_change (C := Try.checked) own started (by kernel_rfl) Try.func5
    (ChangeSpec.witness6 (enc := enc) (C := Try.checked) false ⟨#[], #[.slice none 0 0, .slice none 0 0], []⟩ 8 (by kernel_rfl) (by kernel_rfl) (by kernel_rfl) (by kernel_rfl)) ?_
  intro W base args ds gs before hval0 hW hcnd _
  have hval : ∀ (j : Nat) t v, Try.f5.params[j]? = some t → args[j]? = some v → Value.okWide Try.prog W .any base t v := hval0
  have hW' := hW
  obtain ⟨p, q, hA0, hV, rfl, hfz, hnd⟩ := hW
  have hA : DataW.TrodAll enc Try.prog W 0 (fun _ => true) true Try.f5.params.toList args.toList ds p := hA0
  rw [Try.params5] at hA hval
  obtain ⟨v0, vs0, d0, ds0, p0, q0, hargs, rfl, rfl, h0, r0⟩ := trodAll_cons hA
  obtain ⟨v1, vs1, d1, ds1, p1, q1, rfl, rfl, rfl, h1, r1⟩ := trodAll_cons r0
  obtain ⟨rfl, rfl, rfl⟩ := trodAll_nil r1
  obtain rfl : args = #[v0, v1] := by cases args; simp_all
  obtain ⟨rfl, rfl⟩ := trodVars_none hV
  obtain ⟨a0, len0, cap0, rfl⟩ := okWide_slice Try.underlying23 (hval 0 23 v0 rfl rfl)
  have k0 := h0
  have lt0 : ∀ x ∈ p0, x.block < W.heap.size := by obtain ⟨m, hm⟩ := k0; exact DataW.trod_lt m _ _ _ hm
  obtain ⟨z0, w0⟩ : ∃ zs, IsRow .u8 W a0 len0 cap0 zs := by
    obtain ⟨fuel, hf⟩ := h0
    rcases open_ints Try.underlying23 Try.underlying5 (by kernel_rfl) hf with ⟨hcs, _⟩ | ⟨x, l, c, zs, hcs, _, hl, hm, hz, _, hcell, hwz⟩
    · simp [Value.cells] at hcs
      obtain ⟨rfl, rfl, rfl⟩ := hcs
      exact ⟨[], .inl ⟨rfl, rfl, rfl, rfl⟩⟩
    · simp [Value.cells] at hcs
      obtain ⟨rfl, rfl, rfl⟩ := hcs
      exact ⟨zs, .inr ⟨_, rfl, hl, hm, by simpa using hz, hcell, hwz⟩⟩
  obtain ⟨a1, len1, cap1, rfl⟩ := okWide_slice Try.underlying23 (hval 1 23 v1 rfl rfl)
  have k1 := h1
  have lt1 : ∀ x ∈ p1, x.block < W.heap.size := by obtain ⟨m, hm⟩ := k1; exact DataW.trod_lt m _ _ _ hm
  obtain ⟨z1, w1⟩ : ∃ zs, IsRow .u8 W a1 len1 cap1 zs := by
    obtain ⟨fuel, hf⟩ := h1
    rcases open_ints Try.underlying23 Try.underlying5 (by kernel_rfl) hf with ⟨hcs, _⟩ | ⟨x, l, c, zs, hcs, _, hl, hm, hz, _, hcell, hwz⟩
    · simp [Value.cells] at hcs
      obtain ⟨rfl, rfl, rfl⟩ := hcs
      exact ⟨[], .inl ⟨rfl, rfl, rfl, rfl⟩⟩
    · simp [Value.cells] at hcs
      obtain ⟨rfl, rfl, rfl⟩ := hcs
      exact ⟨zs, .inr ⟨_, rfl, hl, hm, by simpa using hz, hcell, hwz⟩⟩
  clear hA0 hval0
  refine (walk a0 len0 cap0 z0 a1 len1 cap1 z1 W w0 w1).mono fun e W' ⟨he, bel⟩ => ?_
  subst he
  exact ⟨_, rfl, _, _, _, [], _, [], hW', trodAll_mk1 (shut_bool Try.underlying4 _), (trodAll_cons_mk (Below.trod laidOut (by kernel_rfl) (of_decide_eq_true (by kernel_rfl)) k0 bel lt0) (trodAll_cons_mk (Below.trod laidOut (by kernel_rfl) (of_decide_eq_true (by kernel_rfl)) k1 bel lt1) trodAll_mk0)), rfl, bel.frame _, fun h => by cases h⟩

theorem over : Rows.crcPiecesRow.holds Try.pinned (OpenSpec.ofChange Rows.crcPiecesSpec) :=
  OpenClaim.holds_of_wide 5 Try.f5 rfl rfl rfl rfl rfl rfl rfl ⟨rfl, rfl, rfl, rfl, rfl⟩ rfl rfl rfl rfl rfl (by kernel_rfl) Try.func5 (by kernel_rfl)
    (of_decide_eq_true (by kernel_rfl)) (by unfold Func.isWrapper; first | (rw [if_pos (by decide +kernel)]; kernel_rfl) | (rw [if_neg (by decide +kernel)]; exact ⟨rfl, rfl⟩))
    (fun os started H enc _ => lifted os started H enc)

end Go.Proofs.Ytdfaobpdifphoaa.crcPieces
namespace Go.Proofs.Ytdfaobpdifphoaa
/-- The given statement. -/
theorem crcPieces_proved : Rows.CrcPiecesSaid := crcPieces.over
end Go.Proofs.Ytdfaobpdifphoaa
