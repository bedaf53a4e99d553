/-
  The contract of Decode over this seat's translation: the bytes of which that is the text, or that there are none. Conditions: at most 1000 letters.
-/
import Derived.Test.YtaamokcoccjjmaaRadG
import Derived.Test.YtaamokcoccjjmaaRadH
namespace Go.Proofs.Ytaamokcoccjjmaa
open Go.RowKit
set_option linter.unusedVariables false

theorem okL_two {x y : UInt8} : okL [x, y] 4 ↔ 0 ≤ val x ∧ 0 ≤ val y := by
  constructor
  · intro h; exact ⟨h 0 x (by omega) rfl, h 1 y (by omega) rfl⟩
  · rintro ⟨h1, h2⟩ i c hi hc
    match i, hc with
    | 0, hc => simp at hc; subst hc; exact h1
    | 1, hc => simp at hc; subst hc; exact h2
theorem okL_three {x y z : UInt8} : okL [x, y, z] 4 ↔ 0 ≤ val x ∧ 0 ≤ val y ∧ 0 ≤ val z := by
  constructor
  · intro h; exact ⟨h 0 x (by omega) rfl, h 1 y (by omega) rfl, h 2 z (by omega) rfl⟩
  · rintro ⟨h1, h2, h3⟩ i c hi hc
    match i, hc with
    | 0, hc => simp at hc; subst hc; exact h1
    | 1, hc => simp at hc; subst hc; exact h2
    | 2, hc => simp at hc; subst hc; exact h3
theorem okL_four {x y z u : UInt8} : okL [x, y, z, u] 4 ↔ 0 ≤ val x ∧ 0 ≤ val y ∧ 0 ≤ val z ∧ 0 ≤ val u := by
  constructor
  · intro h; exact ⟨h 0 x (by omega) rfl, h 1 y (by omega) rfl, h 2 z (by omega) rfl, h 3 u (by omega) rfl⟩
  · rintro ⟨h1, h2, h3, h4⟩ i c hi hc
    match i, hc with
    | 0, hc => simp at hc; subst hc; exact h1
    | 1, hc => simp at hc; subst hc; exact h2
    | 2, hc => simp at hc; subst hc; exact h3
    | 3, hc => simp at hc; subst hc; exact h4
/-- The bytes that a group of letters says. -/
def says (g : List UInt8) : List Int := [by3 (accL g 4) 0, by3 (accL g 4) 1, by3 (accL g 4) 2].take (g.length - 1)
theorem says_length (g : List UInt8) (h : g.length ≤ 4) : (says g).length = g.length - 1 := by simp [says]; omega
theorem by3_byt (N : Int) (i : Nat) : 0 ≤ by3 N i ∧ by3 N i ≤ 255 := by unfold by3; omega
/-- One group, then the others. -/
theorem decU_good (t : List UInt8) (h2 : 2 ≤ t.length) (h : grpOk (t.take 4)) : decU t = (decU (t.drop 4)).map (says (t.take 4) ++ ·) := by
  match t with
  | [] => simp at h2
  | [_] => simp at h2
  | [x, y] =>
    obtain ⟨ha, hb⟩ := h
    have hv := okL_two.1 ha
    have b1 := hb 1 (by omega) (by simp)
    have hx := val_lt x; have hy := val_lt y
    simp [by3, accL] at b1
    simp only [decU]
    rw [if_pos (by omega)]
    simp [decU, says, by3, accL]
    omega
  | [x, y, z] =>
    obtain ⟨ha, hb⟩ := h
    have hv := okL_three.1 ha
    have b1 := hb 2 (by omega) (by simp)
    have hx := val_lt x; have hy := val_lt y; have hz := val_lt z
    simp [by3, accL] at b1
    simp only [decU]
    rw [if_pos (by omega)]
    simp [decU, says, by3, accL]
    omega
  | x :: y :: z :: u :: r =>
    obtain ⟨ha, hb⟩ := h
    have hv := okL_four.1 ha
    have hx := val_lt x; have hy := val_lt y; have hz := val_lt z; have hu := val_lt u
    simp only [decU]
    rw [if_pos hv]
    have e0 : val x * 4 + val y / 16 = by3 (accL [x, y, z, u] 4) 0 := by simp [by3, accL]; omega
    have e1 : val y % 16 * 16 + val z / 4 = by3 (accL [x, y, z, u] 4) 1 := by simp [by3, accL]; omega
    have e2 : val z % 4 * 64 + val u = by3 (accL [x, y, z, u] 4) 2 := by simp [by3, accL]; omega
    rw [e0, e1, e2]
    simp [says]
theorem decU_bad (t : List UInt8) (h2 : 2 ≤ t.length) (h : ¬ grpOk (t.take 4)) : decU t = none := by
  match t with
  | [] => simp at h2
  | [_] => simp at h2
  | [x, y] =>
    have hx := val_lt x; have hy := val_lt y
    simp only [decU]
    rw [if_neg]
    rintro ⟨h1, h2, h3⟩
    refine h ⟨okL_two.2 ⟨h1, h2⟩, fun i hi hm => ?_⟩
    match i, hi, hm with
    | 0, _, hm => simp at hm
    | 1, _, _ => simp [by3, accL]; omega
    | 2, _, _ => simp [by3, accL]; omega
  | [x, y, z] =>
    have hx := val_lt x; have hy := val_lt y; have hz := val_lt z
    simp only [decU]
    rw [if_neg]
    rintro ⟨h1, h2, h3, h4⟩
    refine h ⟨okL_three.2 ⟨h1, h2, h3⟩, fun i hi hm => ?_⟩
    match i, hi, hm with
    | 0, _, hm => simp at hm
    | 1, _, hm => simp at hm
    | 2, _, _ => simp [by3, accL]; omega
  | x :: y :: z :: u :: r =>
    simp only [decU]
    rw [if_neg]
    intro hv
    refine h ⟨okL_four.2 hv, fun i hi hm => ?_⟩
    simp at hm
    omega
theorem str_cut (t : List UInt8) (a b : Nat) : (⟨t.toArray⟩ : ByteArray).extract a b = ⟨((t.drop a).take (b - a)).toArray⟩ := by
  rw [ByteArray.ext_iff, ByteArray.data_extract]
  simp [List.extract_toArray, List.extract_eq_take_drop]
theorem U_says (g : List UInt8) : U (says g) = [Value.int .u8 (by3 (accL g 4) 0), .int .u8 (by3 (accL g 4) 1), .int .u8 (by3 (accL g 4) 2)].take (g.length - 1) := by simp [says, U]
theorem str_size (l : List UInt8) : (⟨l.toArray⟩ : ByteArray).size = l.length := by simp [ByteArray.size]
theorem SlV_three (w : World) (g m : Nat) (u0 u1 u2 : Value) (e : TypeId) (hg : g = w.heap.size) (hm : m ≤ 3) : SlV (w.alloc (.cells #[u0, u1, u2] e)) (.slice (some ⟨g, 0, none⟩) m 3) ([u0, u1, u2].take m) := by
  subst hg
  have hl : ([u0, u1, u2].take m).length = m := by simp; omega
  refine ⟨_, 3, by rw [hl], by omega, by unfold maxLen; omega, fun h => by simp at h, fun _ => ⟨_, _, rfl, ?_⟩⟩
  intro i y hy
  rw [List.getElem?_take] at hy
  split at hy
  · match i, hy with
    | 0, hy => simp at hy; subst hy; simp
    | 1, hy => simp at hy; subst hy; simp
    | 2, hy => simp at hy; subst hy; simp
  · cases hy
theorem own_below {w w' : World} {B : Nat} {v : Value} {n : Nat} {xs : List Value} (h : w.ownsRow B 5 1 v n xs) (hb : Below w.heap.size w w') : w'.ownsRow B 5 1 v n xs :=
  h.kept (row := some w.heap.size) (grown_of_below hb _) (Or.inr (fun e => by have := (h.lt _ e).2; omega))
set_option maxHeartbeats 400000 in
theorem decode_any (s : ByteArray) (S : List UInt8) (hS : s.data.toList = S) (w : World) (hm : S.length ≤ 1000) :
    Calls Try.prog 11 #[.string s] w fun e w' => (∃ v xs, e = .returned (.tuple #[v, .int .i64 0]) ∧ Byt xs ∧ enc xs = S ∧ w'.ownsRow w.heap.size 5 1 v xs.length (U xs) ∧ Below w.heap.size w w') ∨ (e = .returned (.tuple #[.slice none 0 0, .int .i64 3]) ∧ (∀ xs, Byt xs → enc xs ≠ S) ∧ Below w.heap.size w w') := by
  have hsz : s.size = S.length := by
    rw [← hS, Array.length_toList]; rfl
  obtain ⟨i0, hi, hz0, hz1, hz2⟩ := info_parts Try.info5
  by_cases h4 : S.length % 4 = 0
  · have d : (((S.length : Int) % 4) != 0) = false := by simp; omega
    go_enter Try.func11, Try.ntmps11
    go_wp2_with (first
      | (at_make; refine wpList_make_own _ rfl _ _ 22 rfl w.heap.size 5 i0 _ 1 Try.underlying22 hi hz0 hz1 _ _ _ (S.length / 4 * 3) rfl rfl (by omega) (by rw [hz2]; omega) (by unfold maxLen; omega) (Nat.le_refl _) ?_)
      | (go_at_call 22; refine (pads_any _ _ (by omega)).mono ?_; rintro e w' ⟨rfl, rfl⟩))
    intro w1 hown1 hg1
    have hb1 : Below w.heap.size w w1 := (Below.refl _ _).grown hg1 (Nat.le_refl _) (by simp)
    have hT4 := trim2_mod S h4
    have hTl := trim2_le S
    have HY : Hid (∀ xs, decU (trim2 S) = some xs → Byt xs ∧ enc xs = S) := fun xs h => enc_of_dec S xs h4 h
    have HN : Hid (decU (trim2 S) = none → ∀ xs, Byt xs → enc xs ≠ S) := by
      intro h xs hx he
      rw [← he, dec_of_enc xs hx] at h
      cases h
    go_wp2_with (go_at_call 22; refine (pads_any _ _ (by omega)).mono ?_; rintro e w' ⟨rfl, rfl⟩)
    generalize trim2 S = T at *
    go_loopw [0, 4] (fun sv v wr => ∃ t xs, sv = .string ⟨t.toArray⟩ ∧ t.length % 4 ≠ 1 ∧ t.length + xs.length ≤ 1000 ∧ wr.ownsRow w.heap.size 5 1 v xs.length (U xs) ∧ decU T = (decU t).map (xs ++ ·) ∧ Below w.heap.size w wr) (fun sv _ _ => lenT sv)
    case atStart => exact ⟨T, [], rfl, hT4, by simp; omega, hown1, by simp, hb1⟩
    case round =>
      obtain ⟨t, xs, rfl, ht4, htl, hown, hdec, hbw⟩ := hrel
      have hBw := hbw.size
      have hts := str_size t
      by_cases ht : 0 < t.length
      · have d0 : decide (0 < t.length) = true := decide_eq_true ht
        have ht2 : 2 ≤ t.length := by omega
        obtain ⟨m, hm1, hm2, hm3, hm4, hm5⟩ : ∃ m : Nat, 2 ≤ m ∧ m ≤ 4 ∧ m ≤ t.length ∧ min (t.length : Int) 4 = m ∧ m = min 4 t.length := ⟨min 4 t.length, by omega, by omega, by omega, by omega, rfl⟩
        have hgt : t.take 4 = t.take m := by
          rw [hm5]; simp [List.take_eq_take_iff]
        have hgd : t.drop 4 = t.drop m := by
          rw [hm5]
          by_cases h : 4 ≤ t.length
          · rw [Nat.min_eq_left h]
          · rw [Nat.min_eq_right (by omega), List.drop_length, List.drop_eq_nil_of_le (by omega)]
        have hgl : (t.take m).length = m := by rw [List.length_take]; omega
        have hx1 : ((⟨t.toArray⟩ : ByteArray).extract 0 m).data.toList = t.take m := by rw [str_cut]; simp
        have hx2 : (⟨t.toArray⟩ : ByteArray).extract m t.length = ⟨(t.drop m).toArray⟩ := by
          rw [str_cut, List.take_of_length_le (by simp)]
        have HG := hide (decU_good t ht2)
        have HB := hide (decU_bad t ht2)
        rw [hgt] at HB
        rw [hgt, hgd] at HG
        clear hgt hgd hm5
        go_wp2_with fail
        refine (bytesOf_any _ (t.take m) hx1 _ (by omega) (by omega)).mono ?_
        rintro e w2 (⟨b0, b1, b2, rfl, hno, hb2⟩ | ⟨rfl, hyes, hb2⟩)
        · have HD : Hid (decU T = none) := by rw [Hid, hdec, unhide HB hno]; rfl
          have hbw2 := hbw.trans (hb2.mono hBw)
          clear hdec hno
          go_wp2
          go_ret2
          exact .inr ⟨rfl, unhide HN (unhide HD), hbw2.alloc hbw2.size _⟩
        · have HD := unhide HG hyes
          rw [HD] at hdec
          have HD := hide hdec
          clear hdec hyes
          have HU := hide (U_says (t.take m))
          rw [hgl] at HU
          have HL := hide (says_length (t.take m) (by omega))
          rw [hgl] at HL
          generalize says (t.take m) = ys at *
          have hbw2 := hbw.trans (hb2.mono hBw)
          have hown2 := own_below hown hb2
          have hsz2 := hb2.size
          generalize by3 (accL (t.take m) 4) 0 = n0 at *
          generalize by3 (accL (t.take m) 4) 1 = n1 at *
          generalize by3 (accL (t.take m) 4) 2 = n2 at *
          clear HB HG hx1
          have hm' : m = 2 ∨ m = 3 ∨ m = 4 := by omega
          rcases hm' with rfl | rfl | rfl
          · have hA2 : Below w2.heap.size w2 (w2.alloc (.cells #[.int .u8 n0, .int .u8 n1, .int .u8 n2] 47)) := (Below.refl _ _).alloc (Nat.le_refl _) _
            have hown3 := own_below hown2 hA2
            have hsl : SlV (w2.alloc (.cells #[.int .u8 n0, .int .u8 n1, .int .u8 n2] 47)) (.slice (some ⟨w2.heap.size, 0, none⟩) 1 3) (U ys) := by
              rw [unhide HU]; exact SlV_three w2 _ 1 (.int .u8 n0) (.int .u8 n1) (.int .u8 n2) 47 rfl (by omega)
            clear hown hown2
            go_wp2_with (at_builtin; refine wpList_append_sl rfl (.tmp 34) (.tmp 37) 22 rfl w.heap.size 5 _ 1 Try.underlying22 Try.info5 rfl _ _ _ rfl hown3 _ (U ys) rfl hsl (U_one _) (by rw [U_length, unhide HL]; unfold maxLen; omega) (by rw [U_length, unhide HL]; omega) (by simp; omega) ?_)
            intro v3 w3 ho3 hg3
            have hbw3 : Below w.heap.size w w3 := (hbw2.alloc (by omega) _).grown hg3 (by simp; omega) (fun k hk => (hown3.lt k hk).1)
            have ho3 : w3.ownsRow w.heap.size 5 1 v3 (xs ++ ys).length (U (xs ++ ys)) := by
              rw [U_append, List.length_append]; rw [U_length] at ho3; exact ho3
            clear hown3 hsl hg3
            go_wp2
            refine ⟨⟨t.drop 2, xs ++ ys, rfl, by rw [List.length_drop]; omega, by rw [List.length_drop, List.length_append, unhide HL]; omega, ho3, ?_, hbw3⟩, ?_⟩
            · rw [unhide HD, Option.map_map]
              congr 1
              funext z
              simp
            · rw [lenT_of, lenT_of, List.length_drop]; omega
          · have hA2 : Below w2.heap.size w2 (w2.alloc (.cells #[.int .u8 n0, .int .u8 n1, .int .u8 n2] 47)) := (Below.refl _ _).alloc (Nat.le_refl _) _
            have hown3 := own_below hown2 hA2
            have hsl : SlV (w2.alloc (.cells #[.int .u8 n0, .int .u8 n1, .int .u8 n2] 47)) (.slice (some ⟨w2.heap.size, 0, none⟩) 2 3) (U ys) := by
              rw [unhide HU]; exact SlV_three w2 _ 2 (.int .u8 n0) (.int .u8 n1) (.int .u8 n2) 47 rfl (by omega)
            clear hown hown2
            go_wp2_with (at_builtin; refine wpList_append_sl rfl (.tmp 34) (.tmp 37) 22 rfl w.heap.size 5 _ 1 Try.underlying22 Try.info5 rfl _ _ _ rfl hown3 _ (U ys) rfl hsl (U_one _) (by rw [U_length, unhide HL]; unfold maxLen; omega) (by rw [U_length, unhide HL]; omega) (by simp; omega) ?_)
            intro v3 w3 ho3 hg3
            have hbw3 : Below w.heap.size w w3 := (hbw2.alloc (by omega) _).grown hg3 (by simp; omega) (fun k hk => (hown3.lt k hk).1)
            have ho3 : w3.ownsRow w.heap.size 5 1 v3 (xs ++ ys).length (U (xs ++ ys)) := by
              rw [U_append, List.length_append]; rw [U_length] at ho3; exact ho3
            clear hown3 hsl hg3
            go_wp2
            refine ⟨⟨t.drop 3, xs ++ ys, rfl, by rw [List.length_drop]; omega, by rw [List.length_drop, List.length_append, unhide HL]; omega, ho3, ?_, hbw3⟩, ?_⟩
            · rw [unhide HD, Option.map_map]
              congr 1
              funext z
              simp
            · rw [lenT_of, lenT_of, List.length_drop]; omega
          · have hA2 : Below w2.heap.size w2 (w2.alloc (.cells #[.int .u8 n0, .int .u8 n1, .int .u8 n2] 47)) := (Below.refl _ _).alloc (Nat.le_refl _) _
            have hown3 := own_below hown2 hA2
            have hsl : SlV (w2.alloc (.cells #[.int .u8 n0, .int .u8 n1, .int .u8 n2] 47)) (.slice (some ⟨w2.heap.size, 0, none⟩) 3 3) (U ys) := by
              rw [unhide HU]; exact SlV_three w2 _ 3 (.int .u8 n0) (.int .u8 n1) (.int .u8 n2) 47 rfl (by omega)
            clear hown hown2
            go_wp2_with (at_builtin; refine wpList_append_sl rfl (.tmp 34) (.tmp 37) 22 rfl w.heap.size 5 _ 1 Try.underlying22 Try.info5 rfl _ _ _ rfl hown3 _ (U ys) rfl hsl (U_one _) (by rw [U_length, unhide HL]; unfold maxLen; omega) (by rw [U_length, unhide HL]; omega) (by simp; omega) ?_)
            intro v3 w3 ho3 hg3
            have hbw3 : Below w.heap.size w w3 := (hbw2.alloc (by omega) _).grown hg3 (by simp; omega) (fun k hk => (hown3.lt k hk).1)
            have ho3 : w3.ownsRow w.heap.size 5 1 v3 (xs ++ ys).length (U (xs ++ ys)) := by
              rw [U_append, List.length_append]; rw [U_length] at ho3; exact ho3
            clear hown3 hsl hg3
            go_wp2
            refine ⟨⟨t.drop 4, xs ++ ys, rfl, by rw [List.length_drop]; omega, by rw [List.length_drop, List.length_append, unhide HL]; omega, ho3, ?_, hbw3⟩, ?_⟩
            · rw [unhide HD, Option.map_map]
              congr 1
              funext z
              simp
            · rw [lenT_of, lenT_of, List.length_drop]; omega
      · have d0 : decide (0 < t.length) = false := decide_eq_false ht
        have e0 : t = [] := List.eq_nil_of_length_eq_zero (by omega)
        have HD : Hid (decU T = some xs) := by rw [Hid, hdec, e0]; simp [decU]
        clear hdec e0
        go_wp2
        go_ret2
        obtain ⟨hx, he⟩ := unhide HY xs (unhide HD)
        exact .inl ⟨_, xs, rfl, hx, he, hown, hbw⟩
  · have d : (((S.length : Int) % 4) != 0) = true := by simp; omega
    go_enter Try.func11, Try.ntmps11
    go_wp2
    go_ret2
    refine .inr ⟨rfl, fun xs hx he => ?_, Below.refl _ _⟩
    have := congrArg List.length he
    rw [enc_length] at this
    omega
end Go.Proofs.Ytaamokcoccjjmaa
