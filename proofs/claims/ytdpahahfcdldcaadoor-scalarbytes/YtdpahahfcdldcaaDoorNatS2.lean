/-
  Contracts of Sub and Mul, over this seat's translation. Conditions: at most 100000 words.
-/
import Derived.Test.YtdpahahfcdldcaaDoorNatC
namespace Go.Proofs.YtdpahahfcdldcaaDoor
open Go.RowKit
set_option linter.unusedVariables false

/-- The error where the first is less. -/
def errLt (a b : Nat) : Int := if a < b then 1 else 0
theorem errLt_pos {a b : Nat} (h : a < b) : errLt a b = 1 := if_pos h
theorem errLt_neg {a b : Nat} (h : ¬ a < b) : errLt a b = 0 := if_neg h

set_option maxHeartbeats 1000000 in
theorem sub_any (va vb : Value) (xs ys : List Nat) (w : World) (ha : SlV w va (C .u32 xs)) (hb : SlV w vb (C .u32 ys)) (hx : Lo W32 xs) (hy : Lo W32 ys) (hxm : xs.length ≤ 100000) (hym : ys.length ≤ 100000) :
    Calls Tryd.prog 32 #[va, vb] w fun e w' => ∃ v', e = .returned (.tuple #[v', .int .i64 (errLt (val W32 xs) (val W32 ys))]) ∧ Ans w.heap.size w' v' (val W32 xs - val W32 ys) ∧ Below w.heap.size w w' := by
  obtain ⟨i0, hi, hz0, hz1, hz2⟩ := info_parts Tryd.info55
  go_enter Tryd.func32, Tryd.ntmps32
  go_wp2_with fail
  refine (trimmed_read va xs w ha hx (by omega)).mono ?_
  rintro _ w1 ⟨v1, zs, rfl, hI1, hl1, hs1, hb1⟩
  go_wp2_with fail
  refine (trimmed_read vb ys w1 (hb.below hb1) hy (by omega)).mono ?_
  rintro _ w2' ⟨v2, us, rfl, hI2, hl2, hs2, hb2⟩
  have hs1 := hs1.below hb2
  obtain ⟨n1, hn1⟩ : ∃ n, zs.length = n := ⟨_, rfl⟩
  obtain ⟨n2, hn2⟩ : ∃ n, us.length = n := ⟨_, rfl⟩
  obtain ⟨a1, c1, rfl, q1, r1⟩ := hs1.shapeC hn1
  obtain ⟨a2, c2, rfl, q2, r2⟩ := hs2.shapeC hn2
  have hb02' : Below w.heap.size w w2' := hb1.trans (hb2.mono hb1.size)
  go_wp2_with fail
  refine (cmp_any _ _ zs us w2' hs1 hs2 hI1.2.1 hI2.2.1 (by omega) (by omega)).mono ?_
  rintro _ w2 ⟨rfl, hb3⟩
  have hs1 := hs1.below hb3
  have hs2 := hs2.below hb3
  have hb02 : Below w.heap.size w w2 := hb02'.trans (hb3.mono hb02'.size)
  rw [hI1.1, hI2.1]
  have HS1 := Away.mk hs1; have HS2 := Away.mk hs2; have HI1 := Away.mk hI1; have HI2 := Away.mk hI2; have HB := Away.mk hb02
  clear ha hb hs1 hs2 hI1 hI2 hb1 hb2 hb02 hb3 hb02'
  by_cases hlt : val W32 xs < val W32 ys
  · rw [cmpI_lt hlt]
    have h0 : val W32 xs - val W32 ys = 0 := by omega
    have HLT := Away.mk hlt; have H0 := Away.mk h0
    clear hlt h0
    go_wp2
    go_ret2
    exact ⟨_, by rw [errLt_pos HLT.out]; rfl, by rw [H0.out]; exact Ans.nil _ _, HB.out⟩
  · have hc : decide (cmpI (val W32 xs) (val W32 ys) < 0) = false := decide_eq_false (fun h => hlt (cmpI_neg.1 h))
    have h21 : n2 ≤ n1 := by
      have := HI1.out.val_lt (by decide) (Nat.le_of_eq hn1)
      rw [← hn2]
      exact (HI2.out.len (by decide) n1).2 (by omega)
    have HLT := Away.mk hlt
    generalize cmpI (val W32 xs) (val W32 ys) = cc at *
    clear hlt
    go_wp2_with (at_make; refine wpList_make_full _ rfl _ _ 44 rfl w.heap.size 55 i0 _ 1 Tryd.underlying44 hi hz0 hz1 _ _ _ _ n1 rfl rfl rfl rfl (by rw [hz2]; omega) (by unfold maxLen; omega) HB.out.size ?_)
    intro w3 hown hg3
    have hown := own_made hown
    have HO := Away.mk hown; have HG3 := Away.mk hg3
    clear hown hg3
    have HS1' := Away.mk (HS1.out.grown HG3.out (by simp)); have HS2' := Away.mk (HS2.out.grown HG3.out (by simp))
    go_wp2_with (refine wpList_copy_full rfl (.tmp 18) (.tmp 19) 44 rfl 55 Tryd.underlying44 Tryd.size55 w.heap.size n1 n1 n1 w2.heap.size _ (C .u32 zs) _ _ rfl rfl (by rw [C_length]; exact hn1.symm) HO.out HS1'.out (by rw [C_length]; omega) (C_one _ _) ?_)
    intro w4 hown4 hg4 hsz4
    have hr4 := Row.ofOwn hown4
    rw [C_length, hn1, Nat.sub_self, List.replicate_zero, List.append_nil] at hr4
    have hB24 : Below w2.heap.size w2 w4 := ((Below.refl _ w2).grown HG3.out (Nat.le_refl _) (by simp)).grown hg4 (HG3.out.size) (by simp)
    have hb4 : Below w.heap.size w w4 := HB.out.trans (hB24.mono HB.out.size)
    have hs24 := HS2.out.below hB24
    have hne := HS2.out.own
    have HA := Away.mk (takeTimes_any w2.heap.size 0 n1 n1 1 (.slice a2 n2 c2) [] zs [] us w4 ⟨by simpa using hr4, rfl⟩ hn1 HI1.out.2.1 (by omega) (Nat.le_refl _) (by unfold maxLen; omega) hs24 HI2.out.2.1 (by omega) (fun hp b e => by have := hne (by rw [C_length]; exact hp) b e; omega) (by decide))
    have HB4 := Away.mk hb4; have HG := Away.mk HB.out.size
    clear hown4 hg4 hr4 hB24 hb4 hs24 hne HS1 HS1' HS2' HG3 HO
    go_wp2_with fail
    refine HA.out.mono ?_
    rintro _ w5 ⟨mid', c, rfl, hW5, hl5, hlo5, hv5, hg5⟩
    have hb5 : Below w.heap.size w w5 := HB4.out.grown hg5 HB4.out.size (fun k e => by cases e; exact HG.out)
    have hv : val W32 mid' = val W32 xs - val W32 ys := by
      rw [HI1.out.1, HI2.out.1, Nat.one_mul] at hv5
      have hl := val_lt (B := W32) (by decide) hlo5
      rw [hl5] at hl
      exact (no_borrow hv5 hl (Nat.le_of_not_lt HLT.out)).2
    have hr5 : Row w5 w2.heap.size 55 (C .u32 mid') := by simpa using hW5.1
    have HT := Away.mk (trimmed_new w.heap.size w2.heap.size mid' w5 hr5 HG.out hlo5 (by omega))
    rw [hv, hl5] at HT
    have HB5 := Away.mk hb5
    clear hW5 hv5 hv hg5 hb5 hr5 HA
    go_wp2_with fail
    refine HT.out.mono ?_
    rintro _ w6 ⟨v', rfl, hans, hb6⟩
    go_wp2
    go_ret2
    exact ⟨_, by rw [errLt_neg HLT.out]; rfl, hans, HB5.out.trans (hb6.mono HB5.out.size)⟩

set_option maxHeartbeats 1000000 in
theorem mul_any (va vb : Value) (xs ys : List Nat) (w : World) (ha : SlV w va (C .u32 xs)) (hb : SlV w vb (C .u32 ys)) (hx : Lo W32 xs) (hy : Lo W32 ys) (hxm : xs.length ≤ 100000) (hym : ys.length ≤ 100000) :
    Calls Tryd.prog 34 #[va, vb] w fun e w' => ∃ v', e = .returned v' ∧ Ans w.heap.size w' v' (val W32 xs * val W32 ys) ∧ Below w.heap.size w w' := by
  obtain ⟨i0, hi, hz0, hz1, hz2⟩ := info_parts Tryd.info55
  go_enter Tryd.func34, Tryd.ntmps34
  go_wp2_with fail
  refine (trimmed_read va xs w ha hx (by omega)).mono ?_
  rintro _ w1 ⟨v1, zs, rfl, hI1, hl1, hs1, hb1⟩
  go_wp2_with fail
  refine (trimmed_read vb ys w1 (hb.below hb1) hy (by omega)).mono ?_
  rintro _ w2 ⟨v2, us, rfl, hI2, hl2, hs2, hb2⟩
  have hs1 := hs1.below hb2
  obtain ⟨n1, hn1⟩ : ∃ n, zs.length = n := ⟨_, rfl⟩
  obtain ⟨n2, hn2⟩ : ∃ n, us.length = n := ⟨_, rfl⟩
  obtain ⟨a1, c1, rfl, q1, r1⟩ := hs1.shapeC hn1
  obtain ⟨a2, c2, rfl, q2, r2⟩ := hs2.shapeC hn2
  have hb02 : Below w.heap.size w w2 := hb1.trans (hb2.mono hb1.size)
  have HS1 := Away.mk hs1; have HS2 := Away.mk hs2; have HI1 := Away.mk hI1; have HI2 := Away.mk hI2; have HB := Away.mk hb02
  clear ha hb hs1 hs2 hI1 hI2 hb1 hb2 hb02
  go_wp2_with (at_make; refine wpList_make_full _ rfl _ _ 44 rfl w.heap.size 55 i0 _ 1 Tryd.underlying44 hi hz0 hz1 _ _ _ _ (n1 + n2) rfl rfl (by omega) (by omega) (by rw [hz2]; omega) (by unfold maxLen; omega) HB.out.size ?_)
  intro w3 hown hg3
  have hr3 := Row.ofOwn (own_made hown)
  rw [← C_zeros] at hr3
  have hB23 : Below w2.heap.size w2 w3 := (Below.refl _ w2).grown hg3 (Nat.le_refl _) (by simp)
  clear hown hg3
  have HR3 := Away.mk hr3; have HB3 := Away.mk hB23
  clear hr3 hB23
  go_wp2
  go_loopw [20] (fun iv wr => ∃ (k : Nat) (out : List Nat), k ≤ n2 ∧ iv = .int .i64 (k : Int) ∧ out.length = n1 + n2 ∧ Lo W32 out ∧ val W32 out = val W32 zs * val W32 (us.take k) ∧ Row wr w2.heap.size 55 (C .u32 out) ∧ Below w2.heap.size w2 wr) (fun i _ => n2 - (intOf i).toNat)
  case atStart => exact ⟨0, _, Nat.zero_le _, rfl, by simp, Lo.zeros (by decide) _, by simp [val, val_zeros], HR3.out, HB3.out⟩
  case round =>
    obtain ⟨k, out, hk, rfl, hol, holo, hval, hr, hb⟩ := hrel
    by_cases hlt : k < n2
    · obtain ⟨b, off, rfl, hbl, hcx⟩ := (HS2.out.below hb).cells (by rw [C_length]; omega)
      have hck := hcx k _ (C_get _ (by omega))
      have hyb : us.getD k 0 < 4294967296 := HI2.out.2.1.getD (by decide) k
      have hvs := val_take_succ (B := W32) us k
      generalize us.getD k 0 = y at *
      have hs1 := HS1.out.below hb
      have hne := HS1.out.own
      have hpl : (out.take k).length = k := by rw [List.length_take]; omega
      have hml : (out.drop k).length = n1 + n2 - k := by rw [List.length_drop]; omega
      have HA := Away.mk (addTimes_any w2.heap.size k (n1 + n2 - k) (n1 + n2 - k) y (.slice a1 n1 c1) (out.take k) (out.drop k) [] zs wr ⟨by simpa using hr, hpl⟩ hml (holo.drop k) (by omega) (Nat.le_refl _) (by unfold maxLen; omega) hs1 HI1.out.2.1 (by omega) (fun hp b e => by have := hne (by rw [C_length]; exact hp) b e; omega) hyb)
      have H1 := Away.mk hval; have H2 := Away.mk hvs; have HBr := Away.mk hb; have HL := Away.mk holo
      clear hcx hval hvs hs1 hne hr hb hpl hml holo
      have hkc : n1 + n2 ≠ k := by omega
      go_wp2_with fail
      refine HA.out.mono ?_
      rintro _ w' ⟨mid', c, ⟨u, rfl⟩, hW', hl', hlo', hv', hg'⟩
      have HV := Away.mk hv'; have HW := Away.mk hW'; have HLo := Away.mk hlo'; have HG := Away.mk hg'
      clear hv' hW' hlo' hg' HA
      go_wp2
      go_roundw
      case rel =>
        have hpl : (out.take k).length = k := by rw [List.length_take]; omega
        have hstep := mid_step hpl HV.out
        rw [List.take_append_drop, H1.out, show k + (n1 + n2 - k) = n1 + n2 by omega] at hstep
        have hfit : val W32 zs * val W32 (us.take (k + 1)) < W32 ^ (n1 + n2) := by
          refine mul_fits (B := W32) ?_ ?_
          · rw [HI1.out.1]; exact HI1.out.val_lt (by decide) (by omega)
          · refine Nat.lt_of_le_of_lt (val_take_le _ _) ?_
            rw [HI2.out.1]; exact HI2.out.val_lt (by decide) (by omega)
        have he : val W32 zs * val W32 (us.take k) + W32 ^ k * (y * val W32 zs) = val W32 zs * val W32 (us.take (k + 1)) := by
          rw [H2.out]; generalize val W32 zs = Z; generalize val W32 (us.take k) = T; generalize W32 ^ k = P; grind
        rw [he] at hstep
        refine ⟨k + 1, out.take k ++ mid', by omega, by go_num, by simp; omega, (HL.out.take k).append HLo.out, no_carry hstep hfit, ?_, ?_⟩
        · have := HW.out.1; simpa using this
        · exact HBr.out.grown HG.out HBr.out.size (by simp)
      case measure => simp [intOf]; omega
    · obtain rfl : k = n2 := by omega
      rw [List.take_of_length_le (by omega), HI1.out.1, HI2.out.1] at hval
      have HT := Away.mk (trimmed_new w.heap.size w2.heap.size out wr hr HB.out.size holo (by omega))
      rw [hval, hol] at HT
      have HBr := Away.mk (HB.out.trans (hb.mono HB.out.size))
      clear hval hr hb holo HR3 HB3
      go_wp2_with fail
      refine HT.out.mono ?_
      rintro _ w6 ⟨v', rfl, hans, hb6⟩
      go_wp2
      go_ret
      exact ⟨_, rfl, hans, HBr.out.trans (hb6.mono HBr.out.size)⟩
end Go.Proofs.YtdpahahfcdldcaaDoor
