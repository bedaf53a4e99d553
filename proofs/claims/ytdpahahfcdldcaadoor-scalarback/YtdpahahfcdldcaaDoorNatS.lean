/-
  Contracts of Add, over this seat's translation. Conditions: at most 100000 words.
-/
import Derived.Test.YtdpahahfcdldcaaDoorNatA
namespace Go.Proofs.YtdpahahfcdldcaaDoor
open Go.RowKit
set_option linter.unusedVariables false

theorem Tryd.info55 : (Tryd.prog.info? 55).map (fun i => (i.zero, i.size, i.bytes)) = some (some (.int .u32 0), 1, 4) := by kernel_rfl
theorem Tryd.size55 : (Tryd.prog.info? 55).map (·.size) = some 1 := by kernel_rfl

theorem SlV.own {w : World} {v : Value} {xs : List Value} (h : SlV w v xs) (hp : 0 < xs.length) : ∀ b, v.ownBlock = some b → b < w.heap.size := by
  obtain ⟨a, cap, rfl, _, _, _, h4⟩ := h
  intro b hb
  obtain ⟨b', off, rfl, h5⟩ := h4 hp
  simp only [Value.ownBlock, Option.some.injEq] at hb
  subst hb
  exact World.block_lt_of_cell? w _ (h5 0 _ (List.getElem?_eq_getElem hp))

theorem SlV.shapeC {k : IntKind} {w : World} {v : Value} {xs : List Nat} (h : SlV w v (C k xs)) {n : Nat} (hn : xs.length = n) : ∃ a cap, v = .slice a n cap ∧ n ≤ cap ∧ cap ≤ maxLen := by
  obtain ⟨a, cap, e, h1, h2⟩ := h.shape
  rw [C_length, hn] at e h1
  exact ⟨a, cap, e, h1, h2⟩

set_option maxHeartbeats 1000000 in
theorem add_any (va vb : Value) (xs ys : List Nat) (w : World) (ha : SlV w va (C .u32 xs)) (hb : SlV w vb (C .u32 ys)) (hx : Lo W32 xs) (hy : Lo W32 ys) (hxm : xs.length ≤ 100000) (hym : ys.length ≤ 100000) :
    Calls Tryd.prog 30 #[va, vb] w fun e w' => ∃ v', e = .returned v' ∧ Ans w.heap.size w' v' (val W32 xs + val W32 ys) ∧ Below w.heap.size w w' := by
  obtain ⟨i0, hi, hz0, hz1, hz2⟩ := info_parts Tryd.info55
  go_enter Tryd.func30, Tryd.ntmps30
  go_wp2_with fail
  refine (trimmed_read va xs w ha hx (by omega)).mono ?_
  rintro _ w1 ⟨v1, zs, rfl, hI1, hl1, hs1, hb1⟩
  go_wp2_with fail
  refine (trimmed_read vb ys w1 (hb.below hb1) hy (by omega)).mono ?_
  rintro _ w2 ⟨v2, us, rfl, hI2, hl2, hs2, hb2⟩
  have hs1 := hs1.below hb2
  obtain ⟨n1, hn1⟩ : ∃ n, zs.length = n := ⟨_, rfl⟩
  obtain ⟨n2, hn2⟩ : ∃ n, us.length = n := ⟨_, rfl⟩
  obtain ⟨a1, c1, rfl, q1, r1⟩ := hs1.shapeC hn1
  obtain ⟨a2, c2, rfl, q2, r2⟩ := hs2.shapeC hn2
  have hb02 : Below w.heap.size w w2 := hb1.trans (hb2.mono hb1.size)
  obtain ⟨m, hmx, h1m, h2m, hmm⟩ : ∃ m : Nat, max (n1 : Int) (n2 : Int) = (m : Int) ∧ n1 ≤ m ∧ n2 ≤ m ∧ m ≤ 100000 := ⟨max n1 n2, by omega, by omega, by omega, by omega⟩
  have HS1 := Away.mk hs1; have HS2 := Away.mk hs2; have HI1 := Away.mk hI1; have HI2 := Away.mk hI2; have HB := Away.mk hb02
  clear ha hb hs1 hs2 hI1 hI2 hb1 hb2 hb02
  go_wp2_with (at_make; refine wpList_make_full _ rfl _ _ 44 rfl w.heap.size 55 i0 _ 1 Tryd.underlying44 hi hz0 hz1 _ _ _ _ (m + 1) rfl rfl (by omega) (by omega) (by rw [hz2]; omega) (by unfold maxLen; omega) HB.out.size ?_)
  intro w3 hown hg3
  have hown := own_made hown
  have HO := Away.mk hown; have HG3 := Away.mk hg3
  clear hown hg3
  have HS1' := Away.mk (HS1.out.grown HG3.out (by simp)); have HS2' := Away.mk (HS2.out.grown HG3.out (by simp))
  go_wp2_with (refine wpList_copy_full rfl (.tmp 17) (.tmp 18) 44 rfl 55 Tryd.underlying44 Tryd.size55 w.heap.size (m + 1) (m + 1) n1 w2.heap.size _ (C .u32 zs) _ _ rfl rfl (by rw [C_length]; exact hn1.symm) HO.out HS1'.out (by rw [C_length]; omega) (C_one _ _) ?_)
  intro w4 hown4 hg4 hsz4
  have hr4 := Row.ofOwn hown4
  rw [C_length, hn1, ← C_zeros, ← C_append] at hr4
  have hB24 : Below w2.heap.size w2 w4 := ((Below.refl _ w2).grown HG3.out (Nat.le_refl _) (by simp)).grown hg4 (HG3.out.size) (by simp)
  have hb4 : Below w.heap.size w w4 := HB.out.trans (hB24.mono HB.out.size)
  have hs24 := HS2.out.below hB24
  have hne := HS2.out.own
  obtain ⟨mid, hmid⟩ : ∃ mid, zs ++ List.replicate (m + 1 - n1) 0 = mid := ⟨_, rfl⟩
  rw [hmid] at hr4
  have hml : mid.length = m + 1 := by rw [← hmid]; simp; omega
  have hlo : Lo W32 mid := by rw [← hmid]; exact HI1.out.2.1.append (Lo.zeros (by decide) _)
  have hvm : val W32 mid = val W32 xs := by rw [← hmid, val_append, val_zeros, HI1.out.1]; omega
  have HA := Away.mk (addTimes_any w2.heap.size 0 (m + 1) (m + 1) 1 (.slice a2 n2 c2) [] mid [] us w4 ⟨by simpa using hr4, rfl⟩ hml hlo (by omega) (Nat.le_refl _) (by unfold maxLen; omega) hs24 HI2.out.2.1 (by omega) (fun hp b e => by have := hne (by rw [C_length]; exact hp) b e; omega) (by decide))
  have HB4 := Away.mk hb4; have HG := Away.mk HB.out.size
  clear hown4 hg4 hr4 hB24 hb4 hs24 hne hmid HS1 HS1' HS2' HG3 HO
  go_wp2_with fail
  refine HA.out.mono ?_
  rintro _ w5 ⟨mid', c, ⟨u, rfl⟩, hW5, hl5, hlo5, hv5, hg5⟩
  have hb5 : Below w.heap.size w w5 := HB4.out.grown hg5 HB4.out.size (fun k e => by cases e; exact HG.out)
  have hv : val W32 mid' = val W32 xs + val W32 ys := by
    rw [hvm, HI2.out.1, Nat.one_mul] at hv5
    exact no_carry hv5 (sum_fits (by decide) (HI1.out.val_lt (by decide) (by omega)) (HI2.out.val_lt (by decide) (by omega)))
  have hr5 : Row w5 w2.heap.size 55 (C .u32 mid') := by simpa using hW5.1
  have HT := Away.mk (trimmed_new w.heap.size w2.heap.size mid' w5 hr5 HG.out hlo5 (by omega))
  rw [hv, hl5] at HT
  have HB5 := Away.mk hb5
  clear hW5 hv5 hv hg5 hb5 hr5 hvm HA
  go_wp2_with fail
  refine HT.out.mono ?_
  rintro _ w6 ⟨v', rfl, hans, hb6⟩
  go_wp2
  go_ret
  exact ⟨_, rfl, hans, HB5.out.trans (hb6.mono HB5.out.size)⟩
end Go.Proofs.YtdpahahfcdldcaaDoor
