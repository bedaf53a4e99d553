/-
  Proved: for every byte c and every int n the law Sha512Long returns true, and its arguments read as before. No conditions of ours; the package's variable starts as its initialiser lays it, as the given card ties it.
-/
import Derived.Test.YtniclmghkbdkbaaDoorRows
import Derived.Test.YtniclmghkbdkbaaDoorCards
import Derived.Test.YtniclmghkbdkbaaDoorTie
import Derived.SevenTiedAt
import Derived.Test.YtniclmghkbdkbaaDoorLaw3
import Derived.WalkKit
import Derived.ProofKit
import Derived.OpenShut
import Derived.ShutString
import Derived.Below
namespace Go.Proofs.YtniclmghkbdkbaaDoor.sha512Long
open Go.ChangeShapes Go.WideShapes Go.ChangeAt Go.RowKit
open Go.ChangeMaps (open_string shut_string)
set_option linter.unusedVariables false

theorem own : ownKnob Tryd.prog.godebug = none := by kernel_rfl

theorem and2047 (n : Int) : bits .and .i64 n 2047 = n % 2048 := by
  have hm : (BitVec.ofInt 64 2047).toNat = 2 ^ 11 - 1 := by decide
  have e1 : (BitVec.ofInt 64 n &&& BitVec.ofInt 64 2047).toNat = (n % 18446744073709551616).toNat % 2048 := by
    rw [BitVec.toNat_and, hm, Nat.and_two_pow_sub_one_eq_mod, BitVec.toNat_ofInt]; rfl
  have e2 : bits .and .i64 n 2047 = IntKind.i64.wrap ((BitVec.ofInt 64 n &&& BitVec.ofInt 64 2047).toNat : Nat) := rfl
  rw [e2, e1, IntKind.wrap_i64]
  omega

set_option maxRecDepth 10000 in
set_option maxHeartbeats 1600000 in
/-- The walk: the law returns true and writes nothing that was there. -/
theorem walk (a0 : Int) (a1 : Int) (w0 : (Lit.int .u8 a0).wf = true) (w1 : (Lit.int .i64 a1).wf = true) (w : World) (hTab : S3.Tab w) :
    Calls Tryd.prog 6 #[.int .u8 a0, .int .i64 a1] w fun e w' => e = .returned (.bool true) ∧ Below w.heap.size w w' := by
  obtain ⟨c, rfl, hc⟩ : ∃ c : Nat, a0 = (c : Int) ∧ c < 256 := by
    have := byt_of_wf (xs := [a0]) (fun n hn => by simp at hn; subst hn; exact w0) a0 (by simp)
    exact ⟨a0.toNat, by omega, by omega⟩
  obtain ⟨m, hm, hm8⟩ : ∃ m : Nat, bits .and .i64 a1 2047 = (m : Int) ∧ m < 2048 := ⟨(a1 % 2048).toNat, by rw [and2047]; omega, by omega⟩
  obtain ⟨i0, hi, hz0, hz1, hz2⟩ := info_parts S3.inf8
  have hmi : (m : Int) < 2048 := by omega
  go_enter Tryd.func6, Tryd.ntmps6
  go_wp2_with (at_make; refine wpList_make_full _ rfl _ _ 22 rfl w.heap.size 5 i0 _ 1 Tryd.underlying22 hi hz0 hz1 _ _ _ _ m rfl rfl rfl rfl (by rw [hz2]; omega) (by unfold maxLen; omega) (Nat.le_refl _) ?_)
  intro w1 hown hgrow
  have hown := own_made hown
  have hb1 : Below w.heap.size w w1 := (Below.refl _ _).grown hgrow (Nat.le_refl _) (by simp)
  have hR := Row.ofOwn hown
  rw [← C_zeros] at hR
  have hR : Row w1 w.heap.size 5 (C .u8 (upto (List.replicate m c) m 0)) := by rw [upto_zero]; exact hR
  clear hown hgrow hm
  have hln : (List.replicate m c).length = m := by simp
  go_wp2
  go_loopw [6] (fun i wr => ∃ k : Nat, k ≤ m ∧ i = .int .i64 k ∧ Row wr w.heap.size 5 (C .u8 (upto (List.replicate m c) m k)) ∧ Below w.heap.size w wr) (fun i _ => m - (intOf i).toNat)
  case atStart => exact ⟨0, Nat.zero_le _, rfl, hR, hb1⟩
  case round =>
    clear hR hb1
    obtain ⟨k, hk, rfl, hR, hb⟩ := hrel
    by_cases hlt : k < m
    · have hct : ∃ u, wr.cell? ⟨w.heap.size, k, none⟩ = some u := by
        rw [hR.cell, C_get .u8 (by rw [upto_length hln (by omega)]; exact hlt)]; exact ⟨_, rfl⟩
      obtain ⟨u, hct⟩ := hct
      have hf := hR.frozen k
      have hki : (k : Int) < (m : Int) := by omega
      have HV : Away ((c : Int) = (((List.replicate m c).getD k 0 : Nat) : Int)) := ⟨by simp [List.getD, hlt]⟩
      go_wp2
      go_roundw
      case rel => exact ⟨k + 1, by omega, by go_num, upto_row hR hln hlt HV.out, hb.setCell (by simp) _⟩
      case measure => simp [intOf]; omega
    · have HK : Away (k = m) := ⟨by omega⟩
      rw [HK.out, upto_all hln] at hR
      have hki : ¬ (k : Int) < (m : Int) := by omega
      have hxl : Lo 256 (List.replicate m c) := by intro x hx; rw [List.eq_of_mem_replicate hx]; exact hc
      generalize List.replicate m c = xs at *
      have hsl : SlV wr (.slice (some ⟨w.heap.size, 0, none⟩) m m) (C .u8 xs) := by
        have := hR.slAll (by rw [C_length]; unfold maxLen; omega)
        rwa [C_length, hln] at this
      obtain ⟨H2, hH2⟩ : ∃ H2, S3.sum3 true xs = H2 := ⟨_, rfl⟩
      have hn2 : H2.length = 64 := by rw [← hH2, S3.sum3_length]
      have HH2 := Away.mk hH2
      clear hH2
      go_wp2_with fail
      refine (S3.sum512_any _ xs _ hsl hxl (by omega) (hTab.below hb)).mono ?_
      rintro e w3 ⟨rfl, hb3⟩
      rw [HH2.out]
      have hs3 := hsl.below hb3
      have hb3 := hb.trans (hb3.mono hb.size)
      clear hsl hb hR
      have hQ3 := Row.new w3 26 (C .u8 (Z 64))
      have hL3 := (Below.more (Below.refl w3.heap.size w3) (Nat.le_refl _) (.cells (C .u8 (Z 64)).toArray 26)).1
      have i32H : (Tryd.prog.info? 26).map (·.size) = some (C .u8 H2).length := by rw [C_length, hn2]; exact S3.i64
      have h32H : (C .u8 (Z 64)).length = (C .u8 H2).length := by rw [C_length, C_length, hn2, Z_length]
      go_upto_region 7 with (first | refine wpList_alloc_row rfl 26 rfl _ S3.z64 ?_ | (refine wpList_store_R rfl 26 _ _ rfl _ (C .u8 H2) rfl rfl hQ3 i32H h32H (C_allL _ _) ?_; intro w5 hQ5 hg5 hz5))
      simp only [Act.put, List.setIfInBounds_toArray, List.set_cons_zero, List.set_cons_succ]
      have hL5 := below_grown hL3 hg5 (Nat.le_refl _) hQ3.lt
      have hL0 := hb3.trans (hL5.mono hb3.size)
      have hs0 := hs3.below hL5
      obtain ⟨g5, hg5e⟩ : ∃ g5, w3.heap.size = g5 := ⟨_, rfl⟩
      rw [hg5e] at hQ5
      rw [hg5e]
      have hQ0 : SlV w5 (.slice (some ⟨g5, 0, none⟩) 64 64) (C .u8 H2) := by
        have := hQ5.slAll (by rw [C_length, hn2]; decide)
        rwa [C_length, hn2] at this
      clear hQ3 hL3 hg5 hz5 hs3 hb3 hL5 hQ5 hg5e
      replace hQ0 : SlV w5.drew _ _ := hQ0.keep fun _ _ _ => rfl
      replace hs0 : SlV w5.drew _ _ := hs0.keep fun _ _ _ => rfl
      replace hL0 := hL0.drew
      refine wp_region_noPanic ?_
      refine wp_region_held_drew (S := fun w' => SlV w' (.slice (some ⟨g5, 0, none⟩) 64 64) (C .u8 H2) ∧ SlV w' (.slice (some ⟨w.heap.size, 0, none⟩) m m) (C .u8 xs)) (by kernel_rfl) (⟨hQ0, hs0⟩) (fun hHeld => ?_)
      refine allReadyH_oneL (i := 0) (by kernel_rfl) rfl (by rfl) (fun K hK => ?_)
      go_simp
      refine (S3.alive8_true _ (hTab.below hL0)).mono ?_
      rintro _ w1 ⟨rfl, hb1⟩
      have hQ1 := hQ0.below hb1
      have hs1 := hs0.below hb1
      have hL1 := hL0.trans (hb1.mono hL0.size)
      clear hQ0 hs0 hL0 hb1
      refine hK.out _ _ (⟨hQ1, hs1⟩) (fun hHeld => ?_)
      clear hK K
      refine wpAnyH_takeL (i := 1) (v := ?v1) rfl (by kernel_rfl) (by kernel_rfl) (by kernel_rfl) (fun _ _ _ h => h) (by rfl) ?h1 (by assumption) ?_
      case h1 => intro w hSw; go_simp <;> with_reducible rfl
      simp only [Act.put, List.setIfInBounds_toArray, List.set_cons_zero, List.set_cons_succ]
      refine wpAnyH_takeL (i := 2) (v := ?v2) rfl (by kernel_rfl) (by kernel_rfl) (by kernel_rfl) (fun _ _ _ h => h) (by rfl) ?h2 (by assumption) ?_
      case h2 => intro w hSw; go_simp <;> with_reducible rfl
      simp only [Act.put, List.setIfInBounds_toArray, List.set_cons_zero, List.set_cons_succ]
      refine wpAnyH_takeL (i := 3) (v := (.string (strOfNums (H2.map Int.ofNat)))) rfl (by kernel_rfl) (by kernel_rfl) (by kernel_rfl) (fun _ _ _ h => h) (by rfl) ?h3 (by assumption) ?_
      case h3 => intro w hSw; exact by have hc := S3.str8 (hSw.1); go_simp
      simp only [Act.put, List.setIfInBounds_toArray, List.set_cons_zero, List.set_cons_succ]
      refine wpAnyH_takeL (i := 4) (v := ?v4) rfl (by kernel_rfl) (by kernel_rfl) (by kernel_rfl) (fun _ _ _ h => h) (by rfl) ?h4 (by assumption) ?_
      case h4 => intro w hSw; go_simp <;> with_reducible rfl
      simp only [Act.put, List.setIfInBounds_toArray, List.set_cons_zero, List.set_cons_succ]
      refine allReadyH_oneL (i := 5) (by kernel_rfl) rfl (by rfl) (fun K hK => ?_)
      go_simp
      refine (S3.refsum_any true _ xs _ hs1 hxl (by omega)).mono ?_
      rintro _ w2 ⟨v5, rfl, hv5, hb2⟩
      rw [S3.hash3_true] at hv5
      rw [HH2.out] at hv5
      have hQ2 := hQ1.below hb2
      have hs2 := hs1.below hb2
      have hL2 := hL1.trans (hb2.mono hL1.size)
      clear hQ1 hs1 hL1 hb2
      have hc5 := S3.str8 hv5
      refine hK.out _ _ (⟨hQ2, hs2⟩) (fun hHeld => ?_)
      clear hK K
      refine allReadyH_oneL (i := 6) (by kernel_rfl) rfl (by rfl) (fun K hK => ?_)
      go_simp
      clear hc5 hv5
      refine hK.out _ _ (⟨hQ2, hs2⟩) (fun hHeld => ?_)
      clear hK K
      refine wpAnyH_takeL (i := 7) (v := ?v7) rfl (by kernel_rfl) (by kernel_rfl) (by kernel_rfl) (fun _ _ _ h => h) (by rfl) ?h7 (by assumption) ?_
      case h7 => intro w hSw; go_simp <;> with_reducible rfl
      simp only [Act.put, List.setIfInBounds_toArray, List.set_cons_zero, List.set_cons_succ]
      refine wpAnyH_takeL (i := 8) (v := ?v8) rfl (by kernel_rfl) (by kernel_rfl) (by kernel_rfl) (fun _ _ _ h => h) (by rfl) ?h8 (by assumption) ?_
      case h8 => intro w hSw; go_simp <;> with_reducible rfl
      simp only [Act.put, List.setIfInBounds_toArray, List.set_cons_zero, List.set_cons_succ]
      refine wpAnyH_takeL (i := 9) (v := ?v9) rfl (by kernel_rfl) (by kernel_rfl) (by kernel_rfl) (fun _ _ _ h => h) (by rfl) ?h9 (by assumption) ?_
      case h9 => intro w hSw; go_simp <;> with_reducible rfl
      simp only [Act.put, List.setIfInBounds_toArray, List.set_cons_zero, List.set_cons_succ]
      refine wpAnyH_done (by kernel_rfl) ?_ _
      refine NoPanic.normal ?_
      go_wp2
      go_ret
      exact ⟨rfl, hL2⟩

set_option maxRecDepth 100000 in
theorem lifted (os : Os) (started : os.Started) (H : Type) (enc : TypeId × Value → H) :
    ReturnsInHanded {} Tryd.checked os 6 .any (fun w args => (Rows.sha512LongSpec.pre enc Tryd.prog Tryd.f6 [] false w args ∧ laidMetH Tryd.prog S3.laid1 w) ∧ sizedMet enc Tryd.prog Tryd.f6 (OpenSpec.ofChange Rows.sha512LongSpec) false w args) (Rows.sha512LongSpec.post enc Tryd.prog Tryd.f6 false true false false) := by
  refine returnsInHanded_of_change_and (C := Tryd.checked) (X := fun w _ => laidMetH Tryd.prog S3.laid1 w) (fun _ _ _ hh h => h.of_heap hh) own started (by kernel_rfl) Tryd.func6
    (ChangeSpec.witness_shaped (enc := enc) (C := Tryd.checked) (os := os) (X := fun w _ => laidMetH Tryd.prog S3.laid1 w) false (World.doorLaid Tryd.prog 400 os) #[.int .u8 0, .int .i64 0] 8 rfl (World.shaped_of_RefB (by kernel_rfl) (by kernel_rfl)) (by kernel_rfl) (by kernel_rfl) (by kernel_rfl) (S3.door_met os _)) ?_
  intro W base args ds gs before hval0 hW _ _ hLd _
  have hval : ∀ (j : Nat) t v, Tryd.f6.params[j]? = some t → args[j]? = some v → Value.okWide Tryd.prog W .any base t v := hval0
  have hW' := hW
  obtain ⟨p, q, hA0, hV, rfl, hfz, hnd⟩ := hW
  have hA : DataW.TrodAll enc Tryd.prog W 0 (fun _ => true) true Tryd.f6.params.toList args.toList ds p := hA0
  rw [Tryd.params6] at hA hval
  obtain ⟨v0, vs0, d0, ds0, p0, q0, hargs, rfl, rfl, h0, r0⟩ := trodAll_cons hA
  obtain ⟨v1, vs1, d1, ds1, p1, q1, rfl, rfl, rfl, h1, r1⟩ := trodAll_cons r0
  obtain ⟨rfl, rfl, rfl⟩ := trodAll_nil r1
  obtain rfl : args = #[v0, v1] := by cases args; simp_all
  obtain ⟨rfl, rfl⟩ := trodVars_none hV
  obtain ⟨a0, rfl, rfl, rfl, w0⟩ := open_int Tryd.underlying5 (hval 0 5 v0 rfl rfl) h0
  obtain ⟨a1, rfl, rfl, rfl, w1⟩ := open_int Tryd.underlying3 (hval 1 3 v1 rfl rfl) h1
  clear hA0 hval0
  simp only [List.append_nil] at hW'
  refine (walk a0 a1 w0 w1 W (S3.of_laid hLd)).mono fun e W' ⟨he, hg⟩ => ?_
  subst he
  exact ⟨_, rfl, _, _, _, [], _, [], hW', trodAll_mk1 (shut_bool Tryd.underlying4 _), (trodAll_cons_mk (shut_int Tryd.underlying5 w0) (trodAll_cons_mk (shut_int Tryd.underlying3 w1) trodAll_mk0)), rfl, hg.frame _, fun h => by cases h⟩

theorem over : Rows.sha512LongRow.holds Tryd.pinned (OpenSpec.ofChange Rows.sha512LongSpec) :=
  OpenClaim.holds_of_wide 6 Tryd.f6 rfl rfl rfl rfl rfl rfl rfl ⟨rfl, rfl, rfl, rfl, rfl⟩ rfl rfl rfl rfl rfl (by kernel_rfl) Tryd.func6 (by kernel_rfl)
    (of_decide_eq_true (by kernel_rfl)) (by unfold Func.isWrapper; first | (rw [if_pos (by decide +kernel)]; kernel_rfl) | (rw [if_neg (by decide +kernel)]; exact ⟨rfl, rfl⟩))
    (fun os started H enc _ => lifted os started H enc)

end Go.Proofs.YtniclmghkbdkbaaDoor.sha512Long
namespace Go.Proofs.YtniclmghkbdkbaaDoor
/-- The given statement. -/
theorem sha512Long_proved : Rows.Sha512LongCardSaid :=
  Claim7.holds_tied_plain_at .later [] [.data] true (true, "811edfb1be13716fa3f6f04c4fb46979b36beed6323c6561f9e0df8f7ac8aa31") false
    sha512Long.over (fun _ h => by cases h) (by kernel_rfl) (fun _ h => by cases h) sha512Long_row_tie rfl ⟨rfl, rfl⟩ (by kernel_rfl) rfl
    (fun f fn hf hfn => by
      obtain rfl : f = 6 := Option.some.inj ((show Tryd.prog.funcNamed "affiant/affiantlaw08.Sha512Long" = some 6 by kernel_rfl).symm.trans hf) |>.symm
      obtain rfl : fn = Tryd.f6 := (Option.some.inj (Tryd.func6.symm.trans hfn)).symm
      exact ⟨by kernel_rfl, fun j t ht => by
        rw [Tryd.params6] at ht
        have hm : t ∈ ([5, 3] : List TypeId) := by simpa using Array.mem_of_getElem? ht
        have hall : (([5, 3] : List TypeId).all fun u => !Tryd.prog.wantsStandIn u) = true := by kernel_rfl
        exact (show Tryd.prog.wantsStandIn t = false by simpa using List.all_eq_true.1 hall t hm)⟩)
    (by kernel_rfl)
end Go.Proofs.YtniclmghkbdkbaaDoor
