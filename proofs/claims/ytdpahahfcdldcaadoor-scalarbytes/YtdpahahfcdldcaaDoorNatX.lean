/-
  Contract of Div, over this seat's translation. Conditions: at most 1000 words.
-/
import Derived.Test.YtdpahahfcdldcaaDoorNatW
namespace Go.Proofs.YtdpahahfcdldcaaDoor
open Go.RowKit
set_option linter.unusedVariables false

theorem div_zero (va vb : Value) (xs ys : List Nat) (w : World) (ha : SlV w va (C .u32 xs)) (hb : SlV w vb (C .u32 ys)) (hx : Lo W32 xs) (hy : Lo W32 ys) (hxm : xs.length ≤ 1000) (hym : ys.length ≤ 1000) (h0 : val W32 ys = 0) :
    Calls Tryd.prog 42 #[va, vb] w fun e w' => e = .returned (.tuple #[.slice none 0 0, .slice none 0 0, .int .i64 1]) ∧ Below w.heap.size w w' := by
  go_enter Tryd.func42, Tryd.ntmps42
  go_wp2_with fail
  refine (trimmed_read va xs w ha hx (by omega)).mono ?_
  rintro _ w1 ⟨v1, zs, rfl, hI1, hl1, hs1, hb1⟩
  go_wp2_with fail
  refine (trimmed_read vb ys w1 (hb.below hb1) hy (by omega)).mono ?_
  rintro _ w2 ⟨v2, us, rfl, hI2, hl2, hs2, hb2⟩
  have hb02 : Below w.heap.size w w2 := hb1.trans (hb2.mono hb1.size)
  rw [h0] at hI2
  have hu := hI2.zero (by decide)
  obtain ⟨a2, c2, rfl, q2, r2⟩ := hs2.shapeC (n := 0) (by rw [hu]; rfl)
  clear hs1 hs2 hI1 hI2 hb1 hb2 ha hb
  go_wp2
  go_ret3
  exact ⟨rfl, hb02⟩

set_option maxHeartbeats 1000000 in
theorem div_any (va vb : Value) (xs ys : List Nat) (w : World) (ha : SlV w va (C .u32 xs)) (hb : SlV w vb (C .u32 ys)) (hx : Lo W32 xs) (hy : Lo W32 ys) (hxm : xs.length ≤ 1000) (hym : ys.length ≤ 1000) (h0 : val W32 ys ≠ 0) :
    Calls Tryd.prog 42 #[va, vb] w fun e w' => ∃ v1 v2, e = .returned (.tuple #[v1, v2, .int .i64 0]) ∧ Ans w.heap.size w' v1 (val W32 xs / val W32 ys) ∧ Ans w.heap.size w' v2 (val W32 xs % val W32 ys) ∧ Below w.heap.size w w' := by
  go_enter Tryd.func42, Tryd.ntmps42
  go_wp2_with fail
  refine (trimmed_read va xs w ha hx (by omega)).mono ?_
  rintro _ w1 ⟨v1, zs, rfl, hI1, hl1, hs1, hb1⟩
  go_wp2_with fail
  refine (trimmed_read vb ys w1 (hb.below hb1) hy (by omega)).mono ?_
  rintro _ w2 ⟨v2, us, rfl, hI2, hl2, hs2, hb2⟩
  have hb02 : Below w.heap.size w w2 := hb1.trans (hb2.mono hb1.size)
  have hs1 := hs1.below hb2
  obtain ⟨n1, hn1⟩ : ∃ n, zs.length = n := ⟨_, rfl⟩
  obtain ⟨n2, hn2⟩ : ∃ n, us.length = n := ⟨_, rfl⟩
  have hn20 : 0 < n2 := by
    rcases Nat.eq_zero_or_pos n2 with h | h
    · have : us = [] := List.eq_nil_of_length_eq_zero (by omega)
      have h2 := hI2.1
      rw [this] at h2
      exact absurd h2.symm h0
    · exact h
  obtain ⟨a1, c1, rfl, q1, r1⟩ := hs1.shapeC hn1
  obtain ⟨a2, c2, rfl, q2, r2⟩ := hs2.shapeC hn2
  obtain ⟨b2, o2, rfl, hbl2, hcb⟩ := hs2.cells (by rw [C_length]; omega)
  have hc0 := hcb 0 _ (C_get _ (by omega))
  rw [Nat.add_zero] at hc0
  have HS1 := Away.mk hs1; have HS2 := Away.mk hs2; have HI1 := Away.mk hI1; have HI2 := Away.mk hI2; have HB := Away.mk hb02
  have hu0 : us.getD 0 0 < 4294967296 := hI2.2.1.getD (by decide) _
  clear hs1 hs2 hI1 hI2 hb02 hb1 hb2 ha hb hcb
  by_cases h1 : n2 = 1
  · subst h1
    obtain ⟨y, hy'⟩ : ∃ y, us.getD 0 0 = y := ⟨_, rfl⟩
    have hval : val W32 ys = y := by
      rw [← HI2.out.1, val_split us 0, List.drop_eq_nil_of_le (by omega), hy']
      simp [val]
    rw [hy'] at hc0 hu0
    have HD := Away.mk (divWord_any (.slice a1 n1 c1) zs y w2 HS1.out HI1.out.2.1 (by omega) (by omega) hu0)
    have HVL := Away.mk hval
    have HBS := Away.mk HB.out.size
    clear hval hy'
    go_wp2_with fail
    refine HD.out.mono ?_
    rintro _ w3 ⟨v1, v2, rfl, ans1, ans2, hb3⟩
    rw [HI1.out.1, ← HVL.out] at ans1 ans2
    go_wp2
    go_ret3
    exact ⟨_, _, rfl, ans1.base HBS.out, ans2.base HBS.out, HB.out.trans (hb3.mono HBS.out)⟩
  · have hn22 : 2 ≤ n2 := by omega
    have d0 : ((n2 : Int) == 0) = false := by simp; omega
    have d1 : ((n2 : Int) == 1) = false := by simp; omega
    have HBS := Away.mk HB.out.size
    by_cases hlt : n1 < n2
    · have d2 : decide (n1 < n2) = true := decide_eq_true hlt
      have hvlt : val W32 xs < val W32 ys := by
        have e1 := HI1.out.val_lt (by decide) (show zs.length ≤ n2 - 1 by omega)
        have e2 := HI2.out.2.2 (by omega)
        rw [hn2] at e2
        omega
      have HSR := Away.mk (shr_any (.slice a1 n1 c1) zs 0 w2 HS1.out HI1.out.2.1 (by omega) (by omega))
      simp only [Int.toNat_zero, Nat.pow_zero, Nat.div_one] at HSR
      rw [HI1.out.1] at HSR
      have HV := Away.mk hvlt
      clear hvlt
      go_wp2_with fail
      refine HSR.out.mono ?_
      rintro _ w3 ⟨v2, rfl, ans2, hb3⟩
      go_wp2
      go_ret3
      refine ⟨_, _, rfl, ?_, ?_, HB.out.trans (hb3.mono HBS.out)⟩
      · rw [Nat.div_eq_of_lt HV.out]; exact Ans.nil _ _
      · rw [Nat.mod_eq_of_lt HV.out]; exact ans2.base HBS.out
    · have d2 : decide (n1 < n2) = false := decide_eq_false hlt
      have e1 := HI1.out; have e2 := HI2.out
      have HD := Away.mk (divWords_any (.slice a1 n1 c1) (.slice (some ⟨b2, o2, none⟩) n2 c2) zs us w2 HS1.out HS2.out (by rw [e1.1]; exact e1) (by rw [e2.1]; exact e2) (by omega) (by omega) (by omega))
      rw [e1.1, e2.1] at HD
      clear e1 e2
      go_wp2_with fail
      refine HD.out.mono ?_
      rintro _ w3 ⟨v1, v2, rfl, ans1, ans2, hb3⟩
      go_wp2
      go_ret3
      exact ⟨_, _, rfl, ans1.base HBS.out, ans2.base HBS.out, HB.out.trans (hb3.mono HBS.out)⟩
end Go.Proofs.YtdpahahfcdldcaaDoor
