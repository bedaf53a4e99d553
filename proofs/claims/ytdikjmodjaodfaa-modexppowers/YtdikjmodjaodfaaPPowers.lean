/-
  Proved: for every two lists of words a and m and every two words x the law ModexpPowers returns true, and the lists read as before. No conditions.
-/
import Derived.Test.YtdikjmodjaodfaaRows
import Derived.Test.YtdikjmodjaodfaaLawP5
import Derived.WalkKit
import Derived.ProofKit
import Derived.OpenShut
import Derived.ShutString
import Derived.ChangeOld
import Derived.Below
import Derived.Deep.Cut
import Derived.Deep.CutRange
import Derived.Deep.DeepCutAuto
import Derived.Deep.RegionHeld
namespace Go.Proofs.Ytdikjmodjaodfaa.modexpPowers
open Go.ChangeShapes Go.WideShapes Go.ChangeAt Go.RowKit
open Go.ChangeMaps (open_string shut_string)
set_option linter.unusedVariables false

theorem own : ownKnob Try.prog.godebug = none := by kernel_rfl
theorem laidOut : laidOutB Try.prog = true := by kernel_rfl

set_option maxHeartbeats 16000000 in
/-- The walk: the law returns true and writes nothing that was there. -/
theorem walk (a0 : Option Addr) (len0 cap0 : Nat) (z0 : List Int) (a1 : Option Addr) (len1 cap1 : Nat) (z1 : List Int) (X Y : Nat) (w : World) (w0 : IsRow .u32 w a0 len0 cap0 z0) (w1 : IsRow .u32 w a1 len1 cap1 z1) (hX : X < 4294967296) (hY : Y < 4294967296) :
    Calls Try.prog 7 #[.slice a0 len0 cap0, .slice a1 len1 cap1, two X Y] w fun e w' => e = .returned (.bool true) ∧ Below w.heap.size w w' := by
  have hx : Below w.heap.size w (w.alloc (.cells #[.int .u32 (X : Int), .int .u32 (Y : Int)] 35)) := (Below.refl _ _).alloc (Nat.le_refl _) _
  obtain ⟨xs0, hs0, hl0, hn0⟩ := open32 w0
  have hm0 : len0 ≤ maxLen := by have := hs0.len; rwa [C_length, hn0] at this
  have hi0 : (len0 : Int) ≤ 9223372036854775807 := by unfold maxLen at hm0; omega
  obtain ⟨xs1, hs1, hl1, hn1⟩ := open32 w1
  have hm1 : len1 ≤ maxLen := by have := hs1.len; rwa [C_length, hn1] at this
  have hi1 : (len1 : Int) ≤ 9223372036854775807 := by unfold maxLen at hm1; omega
  clear w0 w1
  by_cases h0 : 24 < (len0 : Int)
  · go_enter Try.func7, Try.ntmps7
    go_wp2_with (go_at_call 8; refine (alive5_true _).mono ?_; rintro e w' ⟨rfl, hb⟩)
    go_ret
    exact ⟨rfl, hx.trans (hb.mono hx.size)⟩
  by_cases h1 : 24 < (len1 : Int)
  · go_enter Try.func7, Try.ntmps7
    go_wp2_with (go_at_call 8; refine (alive5_true _).mono ?_; rintro e w' ⟨rfl, hb⟩)
    go_ret
    exact ⟨rfl, hx.trans (hb.mono hx.size)⟩
  have HN0 : Away (Num w (.slice a0 len0 cap0) (val W32 xs0) 24) := ⟨xs0, hs0, hl0, rfl, by omega⟩
  have HN1 : Away (Num w (.slice a1 len1 cap1) (val W32 xs1) 24) := ⟨xs1, hs1, hl1, rfl, by omega⟩
  generalize val W32 xs0 = N0 at *
  generalize val W32 xs1 = N1 at *
  have HB := Away.mk hx
  replace HN0 := Away.mk (HN0.out.below hx); replace HN1 := Away.mk (HN1.out.below hx)
  have HT : Away (Two (w.alloc (.cells #[.int .u32 (X : Int), .int .u32 (Y : Int)] 35)) w.heap.size X Y) := ⟨⟨by simp, by simp⟩⟩
  have e0 : (w.alloc (.cells #[.int .u32 (X : Int), .int .u32 (Y : Int)] 35)).heap.size = w.heap.size + 1 := by simp
  clear hs0 hl0 hn0 hm0 hs1 hl1 hn1 hm1
  clear hx e0
  by_cases hz : N1 = 0
  · subst hz
    clear HT
    go_enter Try.func7, Try.ntmps7
    go_wp2_with fail
    refine (bits_n _ HN1.out (by decide)).mono ?_
    rw [show bl 0 = 0 from rfl]
    rintro _ x1 ⟨rfl, hb⟩
    replace HN0 := Away.mk (HN0.out.below hb)
    replace HN1 := Away.mk (HN1.out.below hb)
    replace HB := Away.mk (HB.out.trans (hb.mono HB.out.size))
    clear hb
    go_wp2_with fail
    refine (alive5_true _).mono ?_
    rintro _ x2 ⟨rfl, hb⟩
    replace HN0 := Away.mk (HN0.out.below hb)
    replace HN1 := Away.mk (HN1.out.below hb)
    replace HB := Away.mk (HB.out.trans (hb.mono HB.out.size))
    clear hb
    go_wp2
    go_ret
    exact ⟨rfl, HB.out⟩
  have LM := Away.mk HN1.out.lt
  have hM0 : 0 < N1 := Nat.pos_of_ne_zero hz
  have hbl : bl N1 ≠ 0 := fun e => hz (by have := (bl_le N1 0).1 (by omega); omega)
  have d0 : (((bl N1 : Nat) : Int) == 0) = false := by simp; omega
  go_enter Try.func7, Try.ntmps7
  go_wp2_with fail
  refine (bits_n _ HN1.out (by decide)).mono ?_
  rintro _ x1 ⟨rfl, hb⟩
  replace HN0 := Away.mk (HN0.out.below hb)
  replace HN1 := Away.mk (HN1.out.below hb)
  replace HT := Away.mk (HT.out.below hb)
  replace HB := Away.mk (HB.out.trans (hb.mono HB.out.size))
  clear hb
  go_upto_region 3 with fail
  go_cut [7, 8] from 35 to 40 (fun nv kv wc => Num wc nv X 1 ∧ Num wc kv Y 1 ∧ Below x1.heap.size x1 wc)
  case first =>
    obtain ⟨hc0, hc1⟩ := HT.out
    clear HN0 HN1 HT HB LM
    go_region_held (fun w' => w'.cell? ⟨w.heap.size, 0, none⟩ = some (.int .u32 (X : Int)) ∧ w'.cell? ⟨w.heap.size, 1, none⟩ = some (.int .u32 (Y : Int))) (go_keep) (fail)
    · have HK := Away.mk (num_two x1 X Y hX hY)
      clear hc0 hc1
      go_wp2_with fail
      go_meet
      exact HK.out
    · have HK := Away.mk (num_two x1 Y X hY hX)
      clear hc0 hc1
      go_wp2_with fail
      go_meet
      exact ⟨HK.out.2.1, HK.out.1, HK.out.2.2⟩
  case rest =>
    obtain ⟨g1, g2, hb⟩ := hcut
    replace HN0 := Away.mk (HN0.out.below hb); replace HN1 := Away.mk (HN1.out.below hb); replace HB := Away.mk (HB.out.trans (hb.mono HB.out.size))
    have HX := Away.mk g1; have HY := Away.mk g2
    clear g1 g2 hb HT hbl
    go_wp2_with fail
    refine (exp_n _ HN0.out HX.out HN1.out (by decide) (by decide) (by decide) hz).mono ?_
    rintro _ x2 ⟨v1, rfl, g1, hb⟩
    replace HN0 := Away.mk (HN0.out.below hb)
    replace HN1 := Away.mk (HN1.out.below hb)
    replace HX := Away.mk (HX.out.below hb)
    replace HY := Away.mk (HY.out.below hb)
    replace HB := Away.mk (HB.out.trans (hb.mono HB.out.size))
    clear hb
    have HP := Away.mk (g1.numLt (Nat.mod_lt _ hM0) LM.out)
    have HPM := Away.mk (Nat.mod_lt (N0 ^ X) hM0)
    clear g1
    go_wp2_with fail
    refine (exp_n _ HN0.out HY.out HN1.out (by decide) (by decide) (by decide) hz).mono ?_
    rintro _ x3 ⟨v2, rfl, g1, hb⟩
    replace HN0 := Away.mk (HN0.out.below hb)
    replace HN1 := Away.mk (HN1.out.below hb)
    replace HX := Away.mk (HX.out.below hb)
    replace HY := Away.mk (HY.out.below hb)
    replace HP := Away.mk (HP.out.below hb)
    replace HB := Away.mk (HB.out.trans (hb.mono HB.out.size))
    clear hb
    have HQ := Away.mk (g1.numLt (Nat.mod_lt _ hM0) LM.out)
    clear g1
    go_wp2_with fail
    refine (mulm_n _ HP.out HQ.out HN1.out (by decide) (by decide) (by decide) hz).mono ?_
    rw [pow_both]
    rintro _ x4 ⟨v3, rfl, g1, hb⟩
    replace HN0 := Away.mk (HN0.out.below hb)
    replace HN1 := Away.mk (HN1.out.below hb)
    replace HX := Away.mk (HX.out.below hb)
    replace HY := Away.mk (HY.out.below hb)
    replace HP := Away.mk (HP.out.below hb)
    replace HQ := Away.mk (HQ.out.below hb)
    replace HB := Away.mk (HB.out.trans (hb.mono HB.out.size))
    clear hb
    have HBO := Away.mk (g1.numLt (Nat.mod_lt _ hM0) LM.out)
    clear g1
    clear HQ
    go_wp2_with fail
    refine (add_n _ HX.out HY.out (by decide) (by decide)).mono ?_
    rintro _ x5 ⟨v4, rfl, g1, hb⟩
    replace HN0 := Away.mk (HN0.out.below hb)
    replace HN1 := Away.mk (HN1.out.below hb)
    replace HX := Away.mk (HX.out.below hb)
    replace HY := Away.mk (HY.out.below hb)
    replace HP := Away.mk (HP.out.below hb)
    replace HBO := Away.mk (HBO.out.below hb)
    replace HB := Away.mk (HB.out.trans (hb.mono HB.out.size))
    clear hb
    have HS := Away.mk (g1.num (pow_sum (by decide) HX.out.lt HY.out.lt (Nat.le_refl 1) (Nat.le_refl 1)))
    clear g1
    go_wp2_with fail
    refine (exp_n _ HN0.out HS.out HN1.out (by decide) (by decide) (by decide) hz).mono ?_
    rintro _ x6 ⟨v5, rfl, g1, hb⟩
    replace HN0 := Away.mk (HN0.out.below hb)
    replace HN1 := Away.mk (HN1.out.below hb)
    replace HX := Away.mk (HX.out.below hb)
    replace HY := Away.mk (HY.out.below hb)
    replace HP := Away.mk (HP.out.below hb)
    replace HBO := Away.mk (HBO.out.below hb)
    replace HS := Away.mk (HS.out.below hb)
    replace HB := Away.mk (HB.out.trans (hb.mono HB.out.size))
    clear hb
    have HSU := Away.mk (g1.numLt (Nat.mod_lt _ hM0) LM.out)
    clear g1
    clear HS
    go_wp2_with fail
    refine (exp_n _ HP.out HY.out HN1.out (by decide) (by decide) (by decide) hz).mono ?_
    rw [pow_again]
    rintro _ x7 ⟨v6, rfl, g1, hb⟩
    replace HN0 := Away.mk (HN0.out.below hb)
    replace HN1 := Away.mk (HN1.out.below hb)
    replace HX := Away.mk (HX.out.below hb)
    replace HY := Away.mk (HY.out.below hb)
    replace HP := Away.mk (HP.out.below hb)
    replace HBO := Away.mk (HBO.out.below hb)
    replace HSU := Away.mk (HSU.out.below hb)
    replace HB := Away.mk (HB.out.trans (hb.mono HB.out.size))
    clear hb
    have HAG := Away.mk (g1.numLt (Nat.mod_lt _ hM0) LM.out)
    clear g1
    go_wp2_with fail
    refine (mul_n _ HX.out HY.out (by decide) (by decide)).mono ?_
    rintro _ x8 ⟨v7, rfl, g1, hb⟩
    replace HN0 := Away.mk (HN0.out.below hb)
    replace HN1 := Away.mk (HN1.out.below hb)
    replace HX := Away.mk (HX.out.below hb)
    replace HY := Away.mk (HY.out.below hb)
    replace HP := Away.mk (HP.out.below hb)
    replace HBO := Away.mk (HBO.out.below hb)
    replace HSU := Away.mk (HSU.out.below hb)
    replace HAG := Away.mk (HAG.out.below hb)
    replace HB := Away.mk (HB.out.trans (hb.mono HB.out.size))
    clear hb
    have HS := Away.mk (g1.num (mul_fits (B := W32) HX.out.lt HY.out.lt))
    clear g1
    go_wp2_with fail
    refine (exp_n _ HN0.out HS.out HN1.out (by decide) (by decide) (by decide) hz).mono ?_
    rintro _ x9 ⟨v8, rfl, g1, hb⟩
    replace HN0 := Away.mk (HN0.out.below hb)
    replace HN1 := Away.mk (HN1.out.below hb)
    replace HX := Away.mk (HX.out.below hb)
    replace HY := Away.mk (HY.out.below hb)
    replace HP := Away.mk (HP.out.below hb)
    replace HBO := Away.mk (HBO.out.below hb)
    replace HSU := Away.mk (HSU.out.below hb)
    replace HAG := Away.mk (HAG.out.below hb)
    replace HS := Away.mk (HS.out.below hb)
    replace HB := Away.mk (HB.out.trans (hb.mono HB.out.size))
    clear hb
    have HPR := Away.mk (g1.numLt (Nat.mod_lt _ hM0) LM.out)
    clear g1
    clear HS
    clear HX
    clear HY
    clear HN0
    go_wp2_with fail
    refine (alive5_true _).mono ?_
    rintro _ x10 ⟨rfl, hb⟩
    replace HN1 := Away.mk (HN1.out.below hb)
    replace HP := Away.mk (HP.out.below hb)
    replace HBO := Away.mk (HBO.out.below hb)
    replace HSU := Away.mk (HSU.out.below hb)
    replace HAG := Away.mk (HAG.out.below hb)
    replace HPR := Away.mk (HPR.out.below hb)
    replace HB := Away.mk (HB.out.trans (hb.mono HB.out.size))
    clear hb
    go_wp2_with fail
    refine (cmp_n _ HBO.out HSU.out (by decide) (by decide)).mono ?_
    rw [cmp_same]
    rintro _ x11 ⟨rfl, hb⟩
    replace HN1 := Away.mk (HN1.out.below hb)
    replace HP := Away.mk (HP.out.below hb)
    replace HBO := Away.mk (HBO.out.below hb)
    replace HSU := Away.mk (HSU.out.below hb)
    replace HAG := Away.mk (HAG.out.below hb)
    replace HPR := Away.mk (HPR.out.below hb)
    replace HB := Away.mk (HB.out.trans (hb.mono HB.out.size))
    clear hb
    go_wp2_with fail
    refine (cmp_n _ HAG.out HPR.out (by decide) (by decide)).mono ?_
    rw [cmp_same]
    rintro _ x12 ⟨rfl, hb⟩
    replace HN1 := Away.mk (HN1.out.below hb)
    replace HP := Away.mk (HP.out.below hb)
    replace HBO := Away.mk (HBO.out.below hb)
    replace HSU := Away.mk (HSU.out.below hb)
    replace HAG := Away.mk (HAG.out.below hb)
    replace HPR := Away.mk (HPR.out.below hb)
    replace HB := Away.mk (HB.out.trans (hb.mono HB.out.size))
    clear hb
    go_wp2_with fail
    refine (cmp_n _ HP.out HN1.out (by decide) (by decide)).mono ?_
    rw [cmp_lt HPM.out]
    rintro _ x13 ⟨rfl, hb⟩
    replace HN1 := Away.mk (HN1.out.below hb)
    replace HP := Away.mk (HP.out.below hb)
    replace HBO := Away.mk (HBO.out.below hb)
    replace HSU := Away.mk (HSU.out.below hb)
    replace HAG := Away.mk (HAG.out.below hb)
    replace HPR := Away.mk (HPR.out.below hb)
    replace HB := Away.mk (HB.out.trans (hb.mono HB.out.size))
    clear hb
    go_wp2
    go_ret
    exact ⟨rfl, HB.out⟩

/-- Two words that came in. -/
theorem open_two {H : Type} {enc : TypeId × Value → H} {W : World} {b0 : Nat} {v : Value} {d : DataW H} {ps : List MemPlace} (hval : Value.okWide Try.prog W .any b0 35 v) (hd : DataW.Trod enc Try.prog W 0 (fun _ => true) true 35 v d ps) :
    ∃ X Y : Nat, v = two X Y ∧ X < 4294967296 ∧ Y < 4294967296 := by
  obtain ⟨zs, hv, hl, hz⟩ := open_array Try.underlying35 Try.underlying34 (by kernel_rfl) (by kernel_rfl) hval hd
  match zs, hl, hz, hv with
  | [x, y], _, hz, hv =>
    have h1 := hz x (by simp)
    have h2 := hz y (by simp)
    simp [Lit.wf, IntKind.min, IntKind.max, IntKind.signed, IntKind.bits] at h1 h2
    obtain ⟨X, rfl⟩ := Int.eq_ofNat_of_zero_le (show 0 ≤ x by omega)
    obtain ⟨Y, rfl⟩ := Int.eq_ofNat_of_zero_le (show 0 ≤ y by omega)
    exact ⟨X, Y, hv, by omega, by omega⟩
set_option maxRecDepth 100000 in
theorem lifted (os : Os) (started : os.Started) (H : Type) (enc : TypeId × Value → H) :
    ReturnsInHanded {} Try.checked os 7 .any (Rows.modexpPowersSpec.pre6 enc Try.prog Try.f7 Rows.modexpPowersRow.domain false) (Rows.modexpPowersSpec.post enc Try.prog Try.f7 false true false false) := by
  refine returnsInHanded_of_change (C := Try.checked) own started (by kernel_rfl) Try.func7
    (ChangeSpec.witness6 (enc := enc) (C := Try.checked) false ⟨#[], #[.slice none 0 0, .slice none 0 0, .agg #[.int .u32 0, .int .u32 0]], []⟩ 8 (by kernel_rfl) (by kernel_rfl) (by kernel_rfl) (by kernel_rfl)) ?_
  intro W base args ds gs before hval0 hW hcnd _
  have hval : ∀ (j : Nat) t v, Try.f7.params[j]? = some t → args[j]? = some v → Value.okWide Try.prog W .any base t v := hval0
  have hW' := hW
  obtain ⟨p, q, hA0, hV, rfl, hfz, hnd⟩ := hW
  have hA : DataW.TrodAll enc Try.prog W 0 (fun _ => true) true Try.f7.params.toList args.toList ds p := hA0
  rw [Try.params7] at hA hval
  obtain ⟨v0, vs0, d0, ds0, p0, q0, hargs, rfl, rfl, h0, r0⟩ := trodAll_cons hA
  obtain ⟨v1, vs1, d1, ds1, p1, q1, rfl, rfl, rfl, h1, r1⟩ := trodAll_cons r0
  obtain ⟨v2, vs2, d2, ds2, p2, q2, rfl, rfl, rfl, h2, r2⟩ := trodAll_cons r1
  obtain ⟨rfl, rfl, rfl⟩ := trodAll_nil r2
  obtain rfl : args = #[v0, v1, v2] := by cases args; simp_all
  obtain ⟨rfl, rfl⟩ := trodVars_none hV
  obtain ⟨a0, len0, cap0, rfl⟩ := okWide_slice Try.underlying23 (hval 0 23 v0 rfl rfl)
  have k0 := h0
  have lt0 : ∀ x ∈ p0, x.block < W.heap.size := by obtain ⟨m, hm⟩ := k0; exact DataW.trod_lt m _ _ _ hm
  obtain ⟨z0, w0⟩ : ∃ zs, IsRow .u32 W a0 len0 cap0 zs := by
    obtain ⟨fuel, hf⟩ := h0
    rcases open_ints Try.underlying23 Try.underlying34 (by kernel_rfl) hf with ⟨hcs, _⟩ | ⟨x, l, c, zs, hcs, _, hl, hm, hz, _, hcell, hwz⟩
    · simp [Value.cells] at hcs
      obtain ⟨rfl, rfl, rfl⟩ := hcs
      exact ⟨[], .inl ⟨rfl, rfl, rfl, rfl⟩⟩
    · simp [Value.cells] at hcs
      obtain ⟨rfl, rfl, rfl⟩ := hcs
      exact ⟨zs, .inr ⟨_, rfl, hl, hm, by simpa using hz, hcell, hwz⟩⟩
  obtain ⟨a1, len1, cap1, rfl⟩ := okWide_slice Try.underlying23 (hval 1 23 v1 rfl rfl)
  have k1 := h1
  have lt1 : ∀ x ∈ p1, x.block < W.heap.size := by obtain ⟨m, hm⟩ := k1; exact DataW.trod_lt m _ _ _ hm
  obtain ⟨z1, w1⟩ : ∃ zs, IsRow .u32 W a1 len1 cap1 zs := by
    obtain ⟨fuel, hf⟩ := h1
    rcases open_ints Try.underlying23 Try.underlying34 (by kernel_rfl) hf with ⟨hcs, _⟩ | ⟨x, l, c, zs, hcs, _, hl, hm, hz, _, hcell, hwz⟩
    · simp [Value.cells] at hcs
      obtain ⟨rfl, rfl, rfl⟩ := hcs
      exact ⟨[], .inl ⟨rfl, rfl, rfl, rfl⟩⟩
    · simp [Value.cells] at hcs
      obtain ⟨rfl, rfl, rfl⟩ := hcs
      exact ⟨zs, .inr ⟨_, rfl, hl, hm, by simpa using hz, hcell, hwz⟩⟩
  have k2 := h2
  have lt2 : ∀ x ∈ p2, x.block < W.heap.size := by obtain ⟨m, hm⟩ := k2; exact DataW.trod_lt m _ _ _ hm
  obtain ⟨X, Y, rfl, hX, hY⟩ := open_two (hval 2 35 v2 rfl rfl) h2
  clear hA0 hval0
  refine (walk a0 len0 cap0 z0 a1 len1 cap1 z1 X Y W w0 w1 hX hY).mono fun e W' ⟨he, bel⟩ => ?_
  subst he
  exact ⟨_, rfl, _, _, _, [], _, [], hW', trodAll_mk1 (shut_bool Try.underlying4 _), (trodAll_cons_mk (Below.trod laidOut (by kernel_rfl) (of_decide_eq_true (by kernel_rfl)) k0 bel lt0) (trodAll_cons_mk (Below.trod laidOut (by kernel_rfl) (of_decide_eq_true (by kernel_rfl)) k1 bel lt1) (trodAll_cons_mk (Below.trod laidOut (by kernel_rfl) (of_decide_eq_true (by kernel_rfl)) k2 bel lt2) trodAll_mk0))), rfl, bel.frame _, fun h => by cases h⟩

theorem over : Rows.modexpPowersRow.holds Try.pinned (OpenSpec.ofChange Rows.modexpPowersSpec) :=
  OpenClaim.holds_of_wide 7 Try.f7 rfl rfl rfl rfl rfl rfl rfl ⟨rfl, rfl, rfl, rfl, rfl⟩ rfl rfl rfl rfl rfl (by kernel_rfl) Try.func7 (by kernel_rfl)
    (of_decide_eq_true (by kernel_rfl)) (by unfold Func.isWrapper; first | (rw [if_pos (by decide +kernel)]; kernel_rfl) | (rw [if_neg (by decide +kernel)]; exact ⟨rfl, rfl⟩))
    (fun os started H enc _ => lifted os started H enc)

end Go.Proofs.Ytdikjmodjaodfaa.modexpPowers
namespace Go.Proofs.Ytdikjmodjaodfaa
/-- The given statement. -/
theorem modexpPowers_proved : Rows.ModexpPowersSaid := modexpPowers.over
end Go.Proofs.Ytdikjmodjaodfaa
