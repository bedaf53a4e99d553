/-
  Proved: for every byte slice b the law Sha1Sum returns true, and its argument reads as before. No conditions.
-/
import Derived.Test.YtjkmpkhcpilcfaaRows
import Derived.Test.YtjkmpkhcpilcfaaLawS
import Derived.Test.YtjkmpkhcpilcfaaRefT
import Derived.WalkKit
import Derived.ProofKit
import Derived.OpenShut
import Derived.ShutString
import Derived.ChangeOld
import Derived.Below
namespace Go.Proofs.Ytjkmpkhcpilcfaa.sha1Sum
open Go.ChangeShapes Go.WideShapes Go.ChangeAt Go.RowKit
open Go.ChangeMaps (open_string shut_string)
set_option linter.unusedVariables false

theorem own : ownKnob Try.prog.godebug = none := by kernel_rfl
theorem laidOut : laidOutB Try.prog = true := by kernel_rfl

set_option maxHeartbeats 400000 in
/-- The walk: the law returns true and writes nothing that was there. -/
theorem walk (a0 : Option Addr) (len0 cap0 : Nat) (z0 : List Int) (w : World) (w0 : IsRow .u8 w a0 len0 cap0 z0) :
    Calls Try.prog 3 #[.slice a0 len0 cap0] w fun e w' => e = .returned (.bool true) ∧ Below w.heap.size w w' := by
  obtain ⟨xs, hs, hlen, hbx⟩ := w0.bytes
  clear w0
  have hml := hs.len
  rw [C_length, hlen] at hml
  have hmx : (len0 : Int) ≤ 9223372036854775807 := by unfold maxLen at hml; omega
  by_cases hlong : 400 < len0
  · have hl' : (400 : Int) < (len0 : Int) := by omega
    go_enter Try.func3, Try.ntmps3
    go_wp2_with (go_at_call 7; refine (S1.alive6_true _).mono ?_; rintro e w' ⟨rfl, hb⟩)
    go_ret
    exact ⟨rfl, hb⟩
  · have hl' : ¬ (400 : Int) < (len0 : Int) := by omega
    have hA : Below w.heap.size w (w.alloc (.cells #[] 5)) := (Below.refl _ _).alloc (Nat.le_refl _) _
    have hsA := hs.below hA
    have hoA := own_empty w w.heap.size 5 (Nat.le_refl _)
    go_enter Try.func3, Try.ntmps3
    go_wp2_with (at_builtin; refine wpList_append_sl rfl (.tmp 8) (.tmp 9) 22 rfl w.heap.size 5 _ 1 Try.underlying22 S1.inf8 rfl _ 0 [] rfl hoA _ (C .u8 xs) rfl hsA (C_one _ _) (by rw [C_length]; unfold maxLen; omega) (by rw [C_length]; omega) hA.size ?_)
    intro v1 w1 ho1 hg1
    have hb1 : Below w.heap.size w w1 := hA.grown hg1 hA.size (fun k hk => (hoA.lt k hk).1)
    have ho1 : w1.ownsRow w.heap.size 5 1 v1 len0 (C .u8 xs) := by simpa [C_length, hlen] using ho1
    clear hg1 hoA hsA hA
    go_wp2_with fail
    refine (S1.alive6_true _).mono ?_
    rintro e w2 ⟨rfl, hb2⟩
    have ho2 := own_below ho1 hb2
    have hb2 := hb1.trans (hb2.mono hb1.size)
    clear ho1 hb1
    have hs2 := hs.below hb2
    have hsum := S1.sum1_length xs
    have he := fun w => S1.eq20 w (S1.sum1 xs) (S1.sum1 xs) hsum hsum
    simp only [decide_true] at he
    go_wp2_with fail
    refine (S1.sum_any v1 xs w2 (SlV.ofOwn ho2) hbx).mono ?_
    rintro e w3 ⟨rfl, hb3⟩
    have ho3 := own_below ho2 hb3
    have hb3 := hb2.trans (hb3.mono hb2.size)
    clear ho2 hb2 hs2
    have hs3 := hs.below hb3
    go_wp2_with fail
    refine (S1.refsum_any _ xs w3 hs3 hbx (by omega)).mono ?_
    rintro e w4 ⟨rfl, hb4⟩
    have ho4 := own_below ho3 hb4
    have hb4 := hb3.trans (hb4.mono hb3.size)
    clear ho3 hb3 hs3
    have hs4 := hs.below hb4
    have c1 := S1.str8 (SlV.ofOwn ho4)
    have c2 := S1.str8 hs4
    generalize S1.sum1 xs = sm at *
    go_wp2
    go_ret
    exact ⟨rfl, hb4⟩

set_option maxRecDepth 100000 in
theorem lifted (os : Os) (started : os.Started) (H : Type) (enc : TypeId × Value → H) :
    ReturnsInHanded {} Try.checked os 3 .any (Rows.sha1SumSpec.pre6 enc Try.prog Try.f3 Rows.sha1SumRow.domain false) (Rows.sha1SumSpec.post enc Try.prog Try.f3 false true false false) := by
  refine returnsInHanded_of_change (C := Try.checked) own started (by kernel_rfl) Try.func3
    (ChangeSpec.witness6 (enc := enc) (C := Try.checked) false ⟨#[], #[.slice none 0 0], []⟩ 8 (by kernel_rfl) (by kernel_rfl) (by kernel_rfl) (by kernel_rfl)) ?_
  intro W base args ds gs before hval0 hW hcnd _
  have hval : ∀ (j : Nat) t v, Try.f3.params[j]? = some t → args[j]? = some v → Value.okWide Try.prog W .any base t v := hval0
  have hW' := hW
  obtain ⟨p, q, hA0, hV, rfl, hfz, hnd⟩ := hW
  have hA : DataW.TrodAll enc Try.prog W 0 (fun _ => true) true Try.f3.params.toList args.toList ds p := hA0
  rw [Try.params3] at hA hval
  obtain ⟨v0, vs0, d0, ds0, p0, q0, hargs, rfl, rfl, h0, r0⟩ := trodAll_cons hA
  obtain ⟨rfl, rfl, rfl⟩ := trodAll_nil r0
  obtain rfl : args = #[v0] := by cases args; simp_all
  obtain ⟨rfl, rfl⟩ := trodVars_none hV
  obtain ⟨a0, len0, cap0, rfl⟩ := okWide_slice Try.underlying22 (hval 0 22 v0 rfl rfl)
  have k0 := h0
  have lt0 : ∀ x ∈ p0, x.block < W.heap.size := by obtain ⟨m, hm⟩ := k0; exact DataW.trod_lt m _ _ _ hm
  obtain ⟨z0, w0⟩ : ∃ zs, IsRow .u8 W a0 len0 cap0 zs := by
    obtain ⟨fuel, hf⟩ := h0
    rcases open_ints Try.underlying22 Try.underlying5 (by kernel_rfl) hf with ⟨hcs, _⟩ | ⟨x, l, c, zs, hcs, _, hl, hm, hz, _, hcell, hwz⟩
    · simp [Value.cells] at hcs
      obtain ⟨rfl, rfl, rfl⟩ := hcs
      exact ⟨[], .inl ⟨rfl, rfl, rfl, rfl⟩⟩
    · simp [Value.cells] at hcs
      obtain ⟨rfl, rfl, rfl⟩ := hcs
      exact ⟨zs, .inr ⟨_, rfl, hl, hm, by simpa using hz, hcell, hwz⟩⟩
  clear hA0 hval0
  refine (walk a0 len0 cap0 z0 W w0).mono fun e W' ⟨he, bel⟩ => ?_
  subst he
  exact ⟨_, rfl, _, _, _, [], _, [], hW', trodAll_mk1 (shut_bool Try.underlying4 _), (trodAll_cons_mk (Below.trod laidOut (by kernel_rfl) (of_decide_eq_true (by kernel_rfl)) k0 bel lt0) trodAll_mk0), rfl, bel.frame _, fun h => by cases h⟩

theorem over : Rows.sha1SumRow.holds Try.pinned (OpenSpec.ofChange Rows.sha1SumSpec) :=
  OpenClaim.holds_of_wide 3 Try.f3 rfl rfl rfl rfl rfl rfl rfl ⟨rfl, rfl, rfl, rfl, rfl⟩ rfl rfl rfl rfl rfl (by kernel_rfl) Try.func3 (by kernel_rfl)
    (of_decide_eq_true (by kernel_rfl)) (by unfold Func.isWrapper; first | (rw [if_pos (by decide +kernel)]; kernel_rfl) | (rw [if_neg (by decide +kernel)]; exact ⟨rfl, rfl⟩))
    (fun os started H enc _ => lifted os started H enc)

end Go.Proofs.Ytjkmpkhcpilcfaa.sha1Sum
namespace Go.Proofs.Ytjkmpkhcpilcfaa
/-- The given statement. -/
theorem sha1Sum_proved : Rows.Sha1SumSaid := sha1Sum.over
end Go.Proofs.Ytjkmpkhcpilcfaa
