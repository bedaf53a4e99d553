/-
  Proved: for every byte slice b, every number at and every byte by the law CrcOne returns true, and b reads as before. No conditions.
-/
import Derived.Test.YtdfaobpdifphoaaRows
import Derived.Test.YtdfaobpdifphoaaCrcB
import Derived.WalkKit
import Derived.ProofKit
import Derived.OpenShut
import Derived.ShutString
import Derived.ChangeOld
import Derived.Below
namespace Go.Proofs.Ytdfaobpdifphoaa.crcOne
open Go.ChangeShapes Go.WideShapes Go.ChangeAt Go.RowKit
open Go.ChangeMaps (open_string shut_string)
set_option linter.unusedVariables false

theorem own : ownKnob Try.prog.godebug = none := by kernel_rfl
theorem laidOut : laidOutB Try.prog = true := by kernel_rfl

/-- Where it asks nothing, the law returns what the live question returns. -/
theorem idle (a0 : Option Addr) (cap0 : Nat) (xs : List Int) (a1 a2 : Int) (w : World) (hmx : (xs.length : Int) ≤ 9223372036854775807) (hidle : (decide (300 < (xs.length : Int)) || (decide (a1 < 0) || (decide ((xs.length : Int) ≤ a1) || a2 == 0))) = true) :
    Calls Try.prog 6 #[.slice a0 xs.length cap0, .int .i64 a1, .int .u8 a2] w fun e w' => e = .returned (.bool true) ∧ Below w.heap.size w w' := by
  by_cases h1 : 300 < (xs.length : Int)
  · go_enter Try.func6, Try.ntmps6
    go_wp2_with (go_at_call 7; refine (alive_true _).mono ?_; rintro e w' ⟨rfl, hb⟩)
    go_ret
    exact ⟨rfl, hb⟩
  · by_cases h2 : a1 < 0
    · go_enter Try.func6, Try.ntmps6
      go_wp2_with (go_at_call 7; refine (alive_true _).mono ?_; rintro e w' ⟨rfl, hb⟩)
      go_ret
      exact ⟨rfl, hb⟩
    · by_cases h3 : (xs.length : Int) ≤ a1
      · go_enter Try.func6, Try.ntmps6
        go_wp2_with (go_at_call 7; refine (alive_true _).mono ?_; rintro e w' ⟨rfl, hb⟩)
        go_ret
        exact ⟨rfl, hb⟩
      · obtain rfl : a2 = 0 := by simpa [h1, h2, h3] using hidle
        go_enter Try.func6, Try.ntmps6
        go_wp2_with (go_at_call 7; refine (alive_true _).mono ?_; rintro e w' ⟨rfl, hb⟩)
        go_ret
        exact ⟨rfl, hb⟩
set_option maxHeartbeats 400000 in
/-- The walk: the law returns true and writes nothing that was there. -/
theorem walk (a0 : Option Addr) (len0 cap0 : Nat) (z0 : List Int) (a1 : Int) (a2 : Int) (w : World) (w0 : IsRow .u8 w a0 len0 cap0 z0) (w1 : (Lit.int .i64 a1).wf = true) (w2 : (Lit.int .u8 a2).wf = true) :
    Calls Try.prog 6 #[.slice a0 len0 cap0, .int .i64 a1, .int .u8 a2] w fun e w' => e = .returned (.bool true) ∧ Below w.heap.size w w' := by
  have hy : 0 ≤ a2 ∧ a2 ≤ 255 := by
    simp [Lit.wf, IntKind.min, IntKind.max, IntKind.signed, IntKind.bits] at w2
    omega
  obtain ⟨hs, hlen, hwf⟩ := w0.sl
  generalize z0.take len0 = xs at hs hlen hwf
  have hbx : Byt xs := byt_of_wf hwf
  subst hlen
  have hs : SlV w (.slice a0 xs.length cap0) (U xs) := hs
  have hml := hs.len
  rw [U_length] at hml
  have hmx : (xs.length : Int) ≤ 9223372036854775807 := by unfold maxLen at hml; omega
  clear w0 w1 w2 hwf
  by_cases hidle : (decide (300 < (xs.length : Int)) || (decide (a1 < 0) || (decide ((xs.length : Int) ≤ a1) || a2 == 0))) = true
  · exact idle a0 cap0 xs a1 a2 w hmx hidle
  · simp only [Bool.or_eq_true, decide_eq_true_eq, beq_iff_eq, not_or] at hidle
    obtain ⟨h1, h2, h3, h4⟩ := hidle
    obtain ⟨k, rfl⟩ := Int.eq_ofNat_of_zero_le (show 0 ≤ a1 by omega)
    have hk : k < xs.length := by omega
    have hA : Below w.heap.size w (w.alloc (.cells #[] 5)) := (Below.refl _ _).alloc (Nat.le_refl _) _
    have hsA := hs.below hA
    have hoA := own_empty w w.heap.size 5 (Nat.le_refl _)
    go_enter Try.func6, Try.ntmps6
    go_wp2_with (at_builtin; refine wpList_append_sl rfl (.tmp 26) (.tmp 27) 23 rfl w.heap.size 5 _ 1 Try.underlying23 Try.info5 rfl _ 0 [] rfl hoA _ (U xs) rfl hsA (U_one _) (by rw [U_length]; unfold maxLen; omega) (by rw [U_length]; omega) hA.size ?_)
    intro v1 w1 ho1 hg1
    have hb1 : Below w.heap.size w w1 := hA.grown hg1 hA.size (fun k hk => (hoA.lt k hk).1)
    have ho1 : w1.ownsRow w.heap.size 5 1 v1 xs.length (U xs) := by simpa [U_length] using ho1
    clear hg1 hoA hsA hA
    obtain ⟨g, cap, rfl, hg0, hg1, hnc, hcm⟩ := own_shape ho1 (by omega)
    have hcell := ho1.cellAt k (by omega)
    rw [U_getD hk] at hcell
    have hfr := ho1.frozenAt k
    have hx := getD_byt hbx k
    have hyl := xor_u8 (xs.getD k 0) a2 hx hy h4
    have ho2 := (ho1.stored k (.int .u8 (bits .xor .u8 (xs.getD k 0) a2))).1
    have hb2 := hb1.setCell (p := ⟨g, k, none⟩) hg0 (.int .u8 (bits .xor .u8 (xs.getD k 0) a2))
    rw [U_set] at ho2
    have hby := byt_set (k := k) hbx hyl.1
    have HN := Away.mk (sum_ne hk hbx hyl.1 hyl.2)
    clear hyl ho1 hb1
    generalize xs.getD k 0 = x at *
    go_wp2_with fail
    clear hfr hcell
    generalize bits .xor .u8 x a2 = y at *
    generalize w1.setCell ⟨g, k, none⟩ (.int .u8 y) = w2 at *
    refine (alive_true _).mono ?_
    rintro e w3 ⟨rfl, hb3⟩
    have ho3 := own_below ho2 hb3
    have hb3 := hb2.trans (hb3.mono hb2.size)
    clear ho2 hb2
    have hs3 := hs.below hb3
    go_wp2_with fail
    refine (sum_any _ _ w3 (SlV.ofOwn ho3) hby).mono ?_
    rintro e w4 ⟨rfl, rfl⟩
    go_wp2_with fail
    refine (sum_any _ xs w3 hs3 hbx).mono ?_
    rintro e w4 ⟨rfl, rfl⟩
    have hn := HN.out
    clear HN
    generalize go 11994318 (nats (xs.set k y)) = s1 at *
    generalize go 11994318 (nats xs) = s2 at *
    have hn' : ((s1 : Int) != (s2 : Int)) = true := by simp; omega
    go_wp2
    go_ret
    exact ⟨rfl, hb3⟩

set_option maxRecDepth 100000 in
theorem lifted (os : Os) (started : os.Started) (H : Type) (enc : TypeId × Value → H) :
    ReturnsInHanded {} Try.checked os 6 .any (Rows.crcOneSpec.pre6 enc Try.prog Try.f6 Rows.crcOneRow.domain false) (Rows.crcOneSpec.post enc Try.prog Try.f6 false true false false) := by
  refine returnsInHanded_of_change (C := Try.checked) own started (by kernel_rfl) Try.func6
    (ChangeSpec.witness6 (enc := enc) (C := Try.checked) false ⟨#[], #[.slice none 0 0, .int .i64 0, .int .u8 0], []⟩ 8 (by kernel_rfl) (by kernel_rfl) (by kernel_rfl) (by kernel_rfl)) ?_
  intro W base args ds gs before hval0 hW hcnd _
  have hval : ∀ (j : Nat) t v, Try.f6.params[j]? = some t → args[j]? = some v → Value.okWide Try.prog W .any base t v := hval0
  have hW' := hW
  obtain ⟨p, q, hA0, hV, rfl, hfz, hnd⟩ := hW
  have hA : DataW.TrodAll enc Try.prog W 0 (fun _ => true) true Try.f6.params.toList args.toList ds p := hA0
  rw [Try.params6] at hA hval
  obtain ⟨v0, vs0, d0, ds0, p0, q0, hargs, rfl, rfl, h0, r0⟩ := trodAll_cons hA
  obtain ⟨v1, vs1, d1, ds1, p1, q1, rfl, rfl, rfl, h1, r1⟩ := trodAll_cons r0
  obtain ⟨v2, vs2, d2, ds2, p2, q2, rfl, rfl, rfl, h2, r2⟩ := trodAll_cons r1
  obtain ⟨rfl, rfl, rfl⟩ := trodAll_nil r2
  obtain rfl : args = #[v0, v1, v2] := by cases args; simp_all
  obtain ⟨rfl, rfl⟩ := trodVars_none hV
  obtain ⟨a0, len0, cap0, rfl⟩ := okWide_slice Try.underlying23 (hval 0 23 v0 rfl rfl)
  have k0 := h0
  have lt0 : ∀ x ∈ p0, x.block < W.heap.size := by obtain ⟨m, hm⟩ := k0; exact DataW.trod_lt m _ _ _ hm
  obtain ⟨z0, w0⟩ : ∃ zs, IsRow .u8 W a0 len0 cap0 zs := by
    obtain ⟨fuel, hf⟩ := h0
    rcases open_ints Try.underlying23 Try.underlying5 (by kernel_rfl) hf with ⟨hcs, _⟩ | ⟨x, l, c, zs, hcs, _, hl, hm, hz, _, hcell, hwz⟩
    · simp [Value.cells] at hcs
      obtain ⟨rfl, rfl, rfl⟩ := hcs
      exact ⟨[], .inl ⟨rfl, rfl, rfl, rfl⟩⟩
    · simp [Value.cells] at hcs
      obtain ⟨rfl, rfl, rfl⟩ := hcs
      exact ⟨zs, .inr ⟨_, rfl, hl, hm, by simpa using hz, hcell, hwz⟩⟩
  obtain ⟨a1, rfl, rfl, rfl, w1⟩ := open_int Try.underlying3 (hval 1 3 v1 rfl rfl) h1
  obtain ⟨a2, rfl, rfl, rfl, w2⟩ := open_int Try.underlying5 (hval 2 5 v2 rfl rfl) h2
  clear hA0 hval0
  refine (walk a0 len0 cap0 z0 a1 a2 W w0 w1 w2).mono fun e W' ⟨he, bel⟩ => ?_
  subst he
  exact ⟨_, rfl, _, _, _, [], _, [], hW', trodAll_mk1 (shut_bool Try.underlying4 _), (trodAll_cons_mk (Below.trod laidOut (by kernel_rfl) (of_decide_eq_true (by kernel_rfl)) k0 bel lt0) (trodAll_cons_mk (shut_int Try.underlying3 w1) (trodAll_cons_mk (shut_int Try.underlying5 w2) trodAll_mk0))), rfl, bel.frame _, fun h => by cases h⟩

theorem over : Rows.crcOneRow.holds Try.pinned (OpenSpec.ofChange Rows.crcOneSpec) :=
  OpenClaim.holds_of_wide 6 Try.f6 rfl rfl rfl rfl rfl rfl rfl ⟨rfl, rfl, rfl, rfl, rfl⟩ rfl rfl rfl rfl rfl (by kernel_rfl) Try.func6 (by kernel_rfl)
    (of_decide_eq_true (by kernel_rfl)) (by unfold Func.isWrapper; first | (rw [if_pos (by decide +kernel)]; kernel_rfl) | (rw [if_neg (by decide +kernel)]; exact ⟨rfl, rfl⟩))
    (fun os started H enc _ => lifted os started H enc)

end Go.Proofs.Ytdfaobpdifphoaa.crcOne
namespace Go.Proofs.Ytdfaobpdifphoaa
/-- The given statement. -/
theorem crcOne_proved : Rows.CrcOneSaid := crcOne.over
end Go.Proofs.Ytdfaobpdifphoaa
