/-
  Contracts of Sub and Mul, over this seat's translation. Conditions: at most 100000 words.
-/
import Derived.Test.YtbefchlgonlfiaaNatC
namespace Go.Proofs.Ytbefchlgonlfiaa
open Go.RowKit
set_option linter.unusedVariables false

/-- The error where the first is less. -/
def errLt (a b : Nat) : Int := if a < b then 1 else 0
theorem errLt_pos {a b : Nat} (h : a < b) : errLt a b = 1 := if_pos h
theorem errLt_neg {a b : Nat} (h : ¬ a < b) : errLt a b = 0 := if_neg h

set_option maxHeartbeats 1000000 in
theorem mul_any (va vb : Value) (xs ys : List Nat) (w : World) (ha : SlV w va (C .u32 xs)) (hb : SlV w vb (C .u32 ys)) (hx : Lo W32 xs) (hy : Lo W32 ys) (hxm : xs.length ≤ 100000) (hym : ys.length ≤ 100000) :
    Calls Try.prog 66 #[va, vb] w fun e w' => ∃ v', e = .returned v' ∧ Ans w.heap.size w' v' (val W32 xs * val W32 ys) ∧ Below w.heap.size w w' := by
  obtain ⟨i0, hi, hz0, hz1, hz2⟩ := info_parts Try.info45
  go_enter Try.func66, Try.ntmps66
  go_wp2_with fail
  refine (trimmed_read va xs w ha hx (by omega)).mono ?_
  rintro _ w1 ⟨v1, zs, rfl, hI1, hl1, hs1, hb1⟩
  go_wp2_with fail
  refine (trimmed_read vb ys w1 (hb.below hb1) hy (by omega)).mono ?_
  rintro _ w2 ⟨v2, us, rfl, hI2, hl2, hs2, hb2⟩
  have hs1 := hs1.below hb2
  obtain ⟨n1, hn1⟩ : ∃ n, zs.length = n := ⟨_, rfl⟩
  obtain ⟨n2, hn2⟩ : ∃ n, us.length = n := ⟨_, rfl⟩
  obtain ⟨a1, c1, rfl, q1, r1⟩ := hs1.shapeC hn1
  obtain ⟨a2, c2, rfl, q2, r2⟩ := hs2.shapeC hn2
  have hb02 : Below w.heap.size w w2 := hb1.trans (hb2.mono hb1.size)
  have HS1 := Away.mk hs1; have HS2 := Away.mk hs2; have HI1 := Away.mk hI1; have HI2 := Away.mk hI2; have HB := Away.mk hb02
  clear ha hb hs1 hs2 hI1 hI2 hb1 hb2 hb02
  go_wp2_with (at_make; refine wpList_make_full _ rfl _ _ 30 rfl w.heap.size 45 i0 _ 1 Try.underlying30 hi hz0 hz1 _ _ _ _ (n1 + n2) rfl rfl (by omega) (by omega) (by rw [hz2]; omega) (by unfold maxLen; omega) HB.out.size ?_)
  intro w3 hown hg3
  have hr3 := Row.ofOwn (own_made hown)
  rw [← C_zeros] at hr3
  have hB23 : Below w2.heap.size w2 w3 := (Below.refl _ w2).grown hg3 (Nat.le_refl _) (by simp)
  clear hown hg3
  have HR3 := Away.mk hr3; have HB3 := Away.mk hB23
  clear hr3 hB23
  go_wp2
  go_loopw [20] (fun iv wr => ∃ (k : Nat) (out : List Nat), k ≤ n2 ∧ iv = .int .i64 (k : Int) ∧ out.length = n1 + n2 ∧ Lo W32 out ∧ val W32 out = val W32 zs * val W32 (us.take k) ∧ Row wr w2.heap.size 45 (C .u32 out) ∧ Below w2.heap.size w2 wr) (fun i _ => n2 - (intOf i).toNat)
  case atStart => exact ⟨0, _, Nat.zero_le _, rfl, by simp, Lo.zeros (by decide) _, by simp [val, val_zeros], HR3.out, HB3.out⟩
  case round =>
    obtain ⟨k, out, hk, rfl, hol, holo, hval, hr, hb⟩ := hrel
    by_cases hlt : k < n2
    · obtain ⟨b, off, rfl, hbl, hcx⟩ := (HS2.out.below hb).cells (by rw [C_length]; omega)
      have hck := hcx k _ (C_get _ (by omega))
      have hyb : us.getD k 0 < 4294967296 := HI2.out.2.1.getD (by decide) k
      have hvs := val_take_succ (B := W32) us k
      generalize us.getD k 0 = y at *
      have hs1 := HS1.out.below hb
      have hne := HS1.out.own
      have hpl : (out.take k).length = k := by rw [List.length_take]; omega
      have hml : (out.drop k).length = n1 + n2 - k := by rw [List.length_drop]; omega
      have HA := Away.mk (addTimes_any w2.heap.size k (n1 + n2 - k) (n1 + n2 - k) y (.slice a1 n1 c1) (out.take k) (out.drop k) [] zs wr ⟨by simpa using hr, hpl⟩ hml (holo.drop k) (by omega) (Nat.le_refl _) (by unfold maxLen; omega) hs1 HI1.out.2.1 (by omega) (fun hp b e => by have := hne (by rw [C_length]; exact hp) b e; omega) hyb)
      have H1 := Away.mk hval; have H2 := Away.mk hvs; have HBr := Away.mk hb; have HL := Away.mk holo
      clear hcx hval hvs hs1 hne hr hb hpl hml holo
      have hkc : n1 + n2 ≠ k := by omega
      go_wp2_with fail
      refine HA.out.mono ?_
      rintro _ w' ⟨mid', c, ⟨u, rfl⟩, hW', hl', hlo', hv', hg'⟩
      have HV := Away.mk hv'; have HW := Away.mk hW'; have HLo := Away.mk hlo'; have HG := Away.mk hg'
      clear hv' hW' hlo' hg' HA
      go_wp2
      go_roundw
      case rel =>
        have hpl : (out.take k).length = k := by rw [List.length_take]; omega
        have hstep := mid_step hpl HV.out
        rw [List.take_append_drop, H1.out, show k + (n1 + n2 - k) = n1 + n2 by omega] at hstep
        have hfit : val W32 zs * val W32 (us.take (k + 1)) < W32 ^ (n1 + n2) := by
          refine mul_fits (B := W32) ?_ ?_
          · rw [HI1.out.1]; exact HI1.out.val_lt (by decide) (by omega)
          · refine Nat.lt_of_le_of_lt (val_take_le _ _) ?_
            rw [HI2.out.1]; exact HI2.out.val_lt (by decide) (by omega)
        have he : val W32 zs * val W32 (us.take k) + W32 ^ k * (y * val W32 zs) = val W32 zs * val W32 (us.take (k + 1)) := by
          rw [H2.out]; generalize val W32 zs = Z; generalize val W32 (us.take k) = T; generalize W32 ^ k = P; grind
        rw [he] at hstep
        refine ⟨k + 1, out.take k ++ mid', by omega, by go_num, by simp; omega, (HL.out.take k).append HLo.out, no_carry hstep hfit, ?_, ?_⟩
        · have := HW.out.1; simpa using this
        · exact HBr.out.grown HG.out HBr.out.size (by simp)
      case measure => simp [intOf]; omega
    · obtain rfl : k = n2 := by omega
      rw [List.take_of_length_le (by omega), HI1.out.1, HI2.out.1] at hval
      have HT := Away.mk (trimmed_new w.heap.size w2.heap.size out wr hr HB.out.size holo (by omega))
      rw [hval, hol] at HT
      have HBr := Away.mk (HB.out.trans (hb.mono HB.out.size))
      clear hval hr hb holo HR3 HB3
      go_wp2_with fail
      refine HT.out.mono ?_
      rintro _ w6 ⟨v', rfl, hans, hb6⟩
      go_wp2
      go_ret
      exact ⟨_, rfl, hans, HBr.out.trans (hb6.mono HBr.out.size)⟩
end Go.Proofs.Ytbefchlgonlfiaa
