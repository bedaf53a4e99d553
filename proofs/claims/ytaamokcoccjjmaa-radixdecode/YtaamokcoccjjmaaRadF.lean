/-
  Contracts of a builder's Write and of Encode, over this seat's translation. Conditions: each as it says.
-/
import Derived.Test.YtaamokcoccjjmaaRadE
namespace Go.Proofs.Ytaamokcoccjjmaa
open Go.RowKit
set_option linter.unusedVariables false
theorem Try.info5 : (Try.prog.info? 5).map (fun i => (i.zero, i.size, i.bytes)) = some (some (.int .u8 0), 1, 1) := by kernel_rfl
theorem Try.info36 : (Try.prog.info? 36).isSome = true := by kernel_rfl
theorem copyCheck_used (b : Nat) (w : World) (h0 : w.cell? ⟨b, 0, none⟩ = some (.pointer (some ⟨b, 0, none⟩))) :
    Calls Try.prog 25 #[.pointer (some ⟨b, 0, none⟩)] w fun e w' => e = .returned (.tuple #[]) ∧ w = w' := by
  obtain ⟨j, hj⟩ := Option.isSome_iff_exists.1 Try.info36
  go_enter Try.func25, Try.ntmps25
  go_wp2
  rw [Lib.run_neq_ptr_same w _ Try.underlying34 hj]
  go_wp2
  go_end0
  exact ⟨rfl, rfl⟩

theorem write_any (B b : Nat) (bs : List Value) (v : Value) (ys : List Value) (w : World) (h : Lib.BuilderAt 36 5 B b (.pointer (some ⟨b, 0, none⟩)) bs w) (hs : SlV w v ys) (h1 : ∀ u ∈ ys, u.oneCell' = true)
    (hlen : bs.length + ys.length ≤ 1000000) (hBw : B ≤ w.heap.size) :
    Calls Try.prog 19 #[.pointer (some ⟨b, 0, none⟩), v] w fun e w' => e = .returned (.tuple #[.int .i64 ys.length, .nilIface]) ∧ Lib.BuilderAt 36 5 B b (.pointer (some ⟨b, 0, none⟩)) (bs ++ ys) w' ∧ Below B w w' := by
  have c0 := h.cell0
  have hlt := h.lt
  obtain ⟨a, cap, hv, hc, hcm⟩ := hs.shape
  subst hv
  obtain ⟨hB, v, hbk, hown, hne⟩ := h
  have c1 : w.cell? ⟨b, 1, none⟩ = some v := by rw [Lib.cell_of_heap hbk]; rfl
  have HB := hide hbk
  clear hbk
  go_enter Try.func19, Try.ntmps19
  go_wp2_with (first
    | (go_at_call 25; refine (copyCheck_used _ _ c0).mono ?_; rintro e w' ⟨rfl, rfl⟩)
    | (at_builtin; refine wpList_append_sl rfl (.tmp 12) (.tmp 13) 22 rfl B 5 _ 1 Try.underlying22 Try.info5 rfl _ _ _ rfl hown _ ys rfl hs h1 (by unfold maxLen; omega) (by omega) hBw ?_))
  intro v' w2 hown' hgrow
  have hb2 : w2.heap[b]? = some (.cells #[.pointer (some ⟨b, 0, none⟩), v] 36 (0, 0)) := (hgrow.block b hlt (fun e => hne e.symm)).trans (unhide HB)
  have d0 : w2.cell? ⟨b, 0, none⟩ = some (.pointer (some ⟨b, 0, none⟩)) := by rw [Lib.cell_of_heap hb2]; rfl
  have d1 : w2.cell? ⟨b, 1, none⟩ = some v := by rw [Lib.cell_of_heap hb2]; rfl
  have f1 : w2.frozen? ⟨b, 1, none⟩ = false := Lib.frozen_of_heap hb2 1
  have hput := Lib.BuilderAt.put (T := 36) (e := 5) hB hb2 (bs' := bs ++ ys) (by simpa using hown') (by decide)
  have hbel : Below B w (w2.setCell ⟨b, 1, none⟩ v') := ((Below.refl _ _).grown hgrow hBw (fun k hk => (hown.lt k hk).1)).setCell (p := ⟨b, 1, none⟩) hB _
  obtain ⟨ao, n', cap', rfl⟩ : ∃ ao n' cap', v' = .slice ao n' cap' := by
    obtain ⟨a', c', e, _⟩ := (SlV.ofOwn hown').shape
    exact ⟨_, _, _, e⟩
  clear hb2 HB hown' hgrow
  go_wp2
  go_ret2
  exact ⟨rfl, hput, hbel⟩
/-- How long a slice is. -/
def lenS : Value → Nat
  | .slice _ n _ => n
  | _ => 0
theorem grown_of_below {a b : World} (h : Below a.heap.size a b) (row : Option Nat) : a.grownBy b row := ⟨h.os, h.tape, h.output, h.size, fun i hi _ => h.block i hi⟩
theorem lettersOf_four (v : Value) (xs : List Int) (w : World) (hs : SlV w v (U xs)) (hb : Byt xs) (h1 : 1 ≤ xs.length) (h3 : xs.length ≤ 3) :
    Calls Try.prog 18 #[v] w fun e w' => ∃ c0 c1 c2 c3 : UInt8, e = .returned (.agg #[cel c0, cel c1, cel c2, cel c3]) ∧ enc xs = [c0, c1, c2, c3] ∧ Below w.heap.size w w' := by
  refine (lettersOf_any v xs w hs hb h1 h3).mono ?_
  rintro e w' ⟨rfl, hb'⟩
  exact ⟨_, _, _, _, rfl, let4_enc xs hb h1 h3, hb'⟩
theorem SlV_four (w : World) (g : Nat) (u0 u1 u2 u3 : Value) (e : TypeId) (hg : g = w.heap.size) : SlV (w.alloc (.cells #[u0, u1, u2, u3] e)) (.slice (some ⟨g, 0, none⟩) 4 4) [u0, u1, u2, u3] := by
  subst hg
  refine ⟨_, 4, rfl, Nat.le_refl _, by unfold maxLen; omega, fun h => by simp at h, fun _ => ⟨_, _, rfl, ?_⟩⟩
  intro i y hy
  match i, hy with
  | 0, hy => simp at hy; subst hy; simp
  | 1, hy => simp at hy; subst hy; simp
  | 2, hy => simp at hy; subst hy; simp
  | 3, hy => simp at hy; subst hy; simp
theorem BuilderAt_below {B b : Nat} {p : Value} {bs : List Value} {w w' : World} (h : Lib.BuilderAt 36 5 B b p bs w) (hb : Below w.heap.size w w') : Lib.BuilderAt 36 5 B b p bs w' := by
  have hlt := h.lt
  obtain ⟨hB, v, hbk, hown, hne⟩ := h
  exact ⟨hB, v, (hb.block b hlt).trans hbk, hown.kept (row := some w.heap.size) (grown_of_below hb _) (Or.inr (fun e => by have := (hown.lt _ e).2; omega)), hne⟩
theorem encode_any (v : Value) (xs : List Int) (w : World) (hs : SlV w v (U xs)) (hb : Byt xs) (hm : xs.length ≤ 1000) :
    Calls Try.prog 9 #[v] w fun e w' => e = .returned (.string ⟨(enc xs).toArray⟩) ∧ Below w.heap.size w w' := by
  obtain ⟨a, cap, hv, hc, hcm⟩ := hs.shapeU rfl
  subst hv
  go_enter Try.func9, Try.ntmps9
  go_wp2_with fail
  rw [show ((xs.length : Int) + 3 - 1) / 3 * 4 = (((xs.length + 2) / 3 * 4 : Nat) : Int) from by omega]
  refine (Try.Builder_Grow_fresh w.heap.size w.heap.size _ _ (Nat.le_refl _) (heap_alloc_new _ _) (by simp) (by omega)).mono ?_
  rintro e w1 ⟨rfl, hB1, hb1⟩
  have hb1 : Below w.heap.size w w1 := ((Below.refl _ _).alloc (Nat.le_refl _) _).trans hb1
  go_wp2
  go_loopw [0] (fun v wr => ∃ zs l, SlV w v (U zs) ∧ Byt zs ∧ zs.length ≤ 1000 ∧ l ++ enc zs = enc xs ∧ Lib.BuilderAt 36 5 w.heap.size w.heap.size (.pointer (some ⟨w.heap.size, 0, none⟩)) (Lib.byteCells l) wr ∧ Below w.heap.size w wr) (fun v _ => lenS v)
  case atStart => exact ⟨xs, [], hs, hb, hm, rfl, hB1, hb1⟩
  case round =>
    obtain ⟨zs, l, hsz, hbz, hmz, hl, hB, hbw⟩ := hrel
    obtain ⟨a, cap, rfl, hc, hcm⟩ := hsz.shapeU rfl
    have hBw := hbw.size
    by_cases hz : 0 < zs.length
    · have d0 : decide (0 < zs.length) = true := decide_eq_true hz
      obtain ⟨m, hm1, hm2, hm3, hm4⟩ : ∃ m : Nat, 1 ≤ m ∧ m ≤ 3 ∧ m ≤ zs.length ∧ min (zs.length : Int) 3 = m := ⟨min zs.length 3, by omega, by omega, by omega, by omega⟩
      have htk : zs.take m = zs.take 3 := by
        by_cases h3 : zs.length ≤ 3
        · rw [List.take_of_length_le (by omega), List.take_of_length_le h3]
        · have : m = 3 := by omega
          rw [this]
      have hdr : zs.drop m = zs.drop 3 := by
        by_cases h3 : zs.length ≤ 3
        · rw [List.drop_eq_nil_of_le (by omega), List.drop_eq_nil_of_le h3]
        · have : m = 3 := by omega
          rw [this]
      have HT := hide htk
      have HD := hide hdr
      have hnl : (U (zs.take m)).length = m := by rw [U_length, List.length_take]; omega
      have hcut : SlV wr (.slice a m cap) (U (zs.take m)) := by
        obtain ⟨a', c', e, q1, q2, q3, q4⟩ := hsz.below hbw
        simp only [Value.slice.injEq, U_length] at e
        obtain ⟨rfl, -, rfl⟩ := e
        refine ⟨a, cap, by rw [hnl], by omega, q2, q3, fun hp => ?_⟩
        obtain ⟨b, off, rfl, q5⟩ := q4 (by rw [U_length]; omega)
        refine ⟨b, off, rfl, fun i u hu => q5 i u ?_⟩
        rw [U_take, List.getElem?_take] at hu
        split at hu
        · exact hu
        · cases hu
      have hdrop := hsz.cutIf m (zs.length - m) (by omega)
      have hnl' : (zs.take m).length = m := by simpa [U_length] using hnl
      clear htk hdr hnl
      go_wp2_with fail
      refine (lettersOf_four _ (zs.take m) _ hcut (hbz.take m) (by omega) (by omega)).mono ?_
      rintro e w2 ⟨c0, c1, c2, c3, rfl, henc, hb2⟩
      have hB2 := BuilderAt_below hB hb2
      have hBw2 := hb2.size
      have hbw2 : Below w.heap.size w w2 := hbw.trans (hb2.mono hBw)
      have hll := congrArg List.length hl
      rw [List.length_append, enc_length, enc_length] at hll
      have HL : Hid ((l ++ [c0, c1, c2, c3]) ++ enc (zs.drop m) = enc xs) := by
        rw [← henc, unhide HT, unhide HD, List.append_assoc, ← enc_step]; exact hl
      have hA2 : Below w2.heap.size w2 (w2.alloc (.cells #[cel c0, cel c1, cel c2, cel c3] 38)) := (Below.refl _ _).alloc (Nat.le_refl _) _
      clear hnl' hl henc hB hcut
      go_wp2_with fail
      refine (write_any _ _ _ _ [cel c0, cel c1, cel c2, cel c3] _ (BuilderAt_below hB2 hA2) (SlV_four _ _ _ _ _ _ _ rfl) (by simp [Value.oneCell']) (by rw [Lib.byteCells_length]; simp; omega) (by simp; omega)).mono ?_
      rintro e w3 ⟨rfl, hB3, hb3⟩
      have hbw3 : Below w.heap.size w w3 := (hbw2.trans (hA2.mono (by omega))).trans hb3
      have hB3 : Lib.BuilderAt 36 5 w.heap.size w.heap.size (.pointer (some ⟨w.heap.size, 0, none⟩)) (Lib.byteCells (l ++ [c0, c1, c2, c3])) w3 := by rw [Lib.byteCells_append]; exact hB3
      have hU : (List.drop m (U zs)).take (zs.length - m) = U (zs.drop m) := by
        rw [← U_drop, List.take_of_length_le (by rw [U_length, List.length_drop]; exact Nat.le_refl _)]
      rw [hU] at hdrop
      clear hU
      have HDR := hide hdrop
      have hdl : (zs.drop m).length = zs.length - m := List.length_drop
      have HDL := hide hdl
      clear hdl hdrop hll hA2 hB2
      go_wp2
      exact ⟨⟨zs.drop m, l ++ [c0, c1, c2, c3], unhide HDR, hbz.drop m, by rw [unhide HDL]; omega, unhide HL, hB3, hbw3⟩, by simp only [lenS]; omega⟩
    · have d0 : decide (0 < zs.length) = false := decide_eq_false hz
      have e0 : zs = [] := List.eq_nil_of_length_eq_zero (by omega)
      have e1 : l = enc xs := by rw [← hl, e0]; simp [enc]
      have HL := hide e1
      clear hl e1 e0
      go_wp2_with fail
      refine (Try.Builder_String_any _ _ l _ (.inr hB) hBw).mono ?_
      rintro e w2 ⟨rfl, hb2⟩
      go_wp2
      go_ret
      exact ⟨by rw [unhide HL]; rfl, hbw.trans hb2⟩
end Go.Proofs.Ytaamokcoccjjmaa
