/-
  The document's own answer for Decode, read loosely and held against what is written: what its function returns, over this seat's translation. Conditions: at most 300 letters.
-/
import Derived.Test.YtaamokcoccjjmaaRadJ
namespace Go.Proofs.Ytaamokcoccjjmaa
open Go.RowKit
set_option linter.unusedVariables false
/-- What a letter counts, read loosely. -/
def lv (c : UInt8) : Int := if val c < 0 then 0 else val c
theorem lv_ltr {n : Int} (h0 : 0 ≤ n) (h : n < 64) : lv (ltr n) = n := by unfold lv; rw [val_ltr h0 h, if_neg (by omega)]
theorem lv_pad : lv 61 = 0 := by decide +kernel
theorem lv_bd (c : UInt8) : 0 ≤ lv c ∧ lv c < 64 := by
  unfold lv
  have := val_lt c
  split <;> omega
/-- One letter more, read loosely. -/
def lst (s : Int × Nat × List Int) (v : Int) : Int × Nat × List Int :=
  if 8 ≤ s.2.1 + 6 then ((s.1 * 64 + v) % 2 ^ (s.2.1 - 2), s.2.1 - 2, s.2.2 ++ [(s.1 * 64 + v) / 2 ^ (s.2.1 - 2) % 256]) else (s.1 * 64 + v, s.2.1 + 6, s.2.2)
def loose (l : List UInt8) : Int × Nat × List Int := (l.map lv).foldl lst (0, 0, [])
theorem lst4 (o : List Int) (a b c d : Int) (ha : 0 ≤ a ∧ a < 64) (hb : 0 ≤ b ∧ b < 64) (hc : 0 ≤ c ∧ c < 64) (hd : 0 ≤ d ∧ d < 64) : lst (lst (lst (lst (0, 0, o) a) b) c) d = (0, 0, o ++ [a * 4 + b / 16, b % 16 * 16 + c / 4, c % 4 * 64 + d]) := by
  simp [lst]
  omega
theorem loose_enc : ∀ (xs o : List Int), Byt xs → ((enc xs).map lv).foldl lst (0, 0, o) = (0, 0, o ++ xs ++ List.replicate ((3 - xs.length % 3) % 3) 0)
  | [], o, _ => by simp [enc]
  | [a], o, h => by
    simp only [byt_cons] at h
    simp only [enc, List.map_cons, List.map_nil, List.foldl_cons, List.foldl_nil]
    rw [lv_ltr (by omega) (by omega), lv_ltr (by omega) (by omega), lv_pad, lst4 _ _ _ _ _ (by omega) (by omega) (by omega) (by omega)]
    simp
    omega
  | [a, b], o, h => by
    simp only [byt_cons] at h
    simp only [enc, List.map_cons, List.map_nil, List.foldl_cons, List.foldl_nil]
    rw [lv_ltr (by omega) (by omega), lv_ltr (by omega) (by omega), lv_ltr (by omega) (by omega), lv_pad, lst4 _ _ _ _ _ (by omega) (by omega) (by omega) (by omega)]
    simp
    omega
  | a :: b :: c :: r, o, h => by
    simp only [byt_cons] at h
    simp only [enc, List.map_cons, List.foldl_cons]
    rw [lv_ltr (by omega) (by omega), lv_ltr (by omega) (by omega), lv_ltr (by omega) (by omega), lv_ltr (by omega) (by omega), lst4 _ _ _ _ _ (by omega) (by omega) (by omega) (by omega), loose_enc r _ h.2.2.2]
    have e : (a :: b :: c :: r).length % 3 = r.length % 3 := by simp; omega
    rw [e]
    simp
    omega
theorem loose_of (xs : List Int) (h : Byt xs) : ∃ p, p ≤ 2 ∧ (loose (enc xs)).2.2 = xs ++ List.replicate p 0 := by
  refine ⟨(3 - xs.length % 3) % 3, by omega, ?_⟩
  rw [loose, loose_enc xs [] h]; rfl
theorem loose_snoc (l : List UInt8) (c : UInt8) : loose (l ++ [c]) = lst (loose l) (lv c) := by simp [loose]
/-- A letter, or what fills up. -/
def oneOf (c : UInt8) : Prop := 0 ≤ val c ∨ c = 61
theorem enc_oneOf : ∀ xs : List Int, Byt xs → ∀ c ∈ enc xs, oneOf c := by
  intro xs h c hc
  rw [enc_pads] at hc
  rcases List.mem_append.1 hc with hc | hc
  · have hd := decU_encU xs h
    left
    rcases Int.lt_or_le (val c) 0 with hn | hn
    · exfalso
      clear hd
      revert hc
      induction xs using encU.induct with
      | case1 => intro hc; simp [encU] at hc
      | case2 a =>
        intro hc
        simp only [byt_cons] at h
        simp only [encU, List.mem_cons, List.not_mem_nil, or_false] at hc
        rcases hc with rfl | rfl <;> rw [val_ltr (by omega) (by omega)] at hn <;> omega
      | case3 a b =>
        intro hc
        simp only [byt_cons] at h
        simp only [encU, List.mem_cons, List.not_mem_nil, or_false] at hc
        rcases hc with rfl | rfl | rfl <;> rw [val_ltr (by omega) (by omega)] at hn <;> omega
      | case4 a b c' r ih =>
        intro hc
        simp only [byt_cons] at h
        simp only [encU, List.mem_cons] at hc
        rcases hc with rfl | rfl | rfl | rfl | hc
        · rw [val_ltr (by omega) (by omega)] at hn; omega
        · rw [val_ltr (by omega) (by omega)] at hn; omega
        · rw [val_ltr (by omega) (by omega)] at hn; omega
        · rw [val_ltr (by omega) (by omega)] at hn; omega
        · exact ih h.2.2.2 (List.mem_append_left _ hc) hc
    · exact hn
  · exact .inr (List.eq_of_mem_replicate hc)
theorem take_snoc {l : List UInt8} {k : Nat} (h : k < l.length) : l.take (k + 1) = l.take k ++ [l[k]] := by rw [List.take_succ_eq_append_getElem h]
theorem SlV.upto {w : World} {a : Option Addr} {n cap : Nat} {xs : List Value} (h : SlV w (.slice a n cap) xs) (m : Nat) (hm : m ≤ n) : SlV w (.slice a m cap) (xs.take m) := by
  obtain ⟨a', c', e, q1, q2, q3, q4⟩ := h
  simp only [Value.slice.injEq] at e
  obtain ⟨rfl, rfl, rfl⟩ := e
  have hl : (xs.take m).length = m := by rw [List.length_take]; omega
  refine ⟨a, cap, by rw [hl], by omega, q2, q3, fun hp => ?_⟩
  obtain ⟨b, off, rfl, q5⟩ := q4 (by omega)
  refine ⟨b, off, rfl, fun i u hu => q5 i u ?_⟩
  rw [List.getElem?_take] at hu
  split at hu
  · exact hu
  · cases hu
/-- What stands behind j letters. -/
structure LooseAt (S : List UInt8) (j : Nat) (n : Int) (m : Nat) (o : List Int) : Prop where
  is : loose (S.take j) = (n, m, o)
  ms : (m = 0 ∧ 0 ≤ n ∧ n < 1) ∨ (m = 2 ∧ 0 ≤ n ∧ n < 4) ∨ (m = 4 ∧ 0 ≤ n ∧ n < 16) ∨ (m = 6 ∧ 0 ≤ n ∧ n < 64)
  byt : Byt o
  len : o.length ≤ j
  all : ∀ c ∈ S.take j, oneOf c
theorem LooseAt.grow {S : List UInt8} {j m : Nat} {n : Int} {o : List Int} {c : UInt8} (h : LooseAt S j n m o) (ht : S.take (j + 1) = S.take j ++ [c]) (hc : oneOf c) (x n' b' : Int) (m' : Nat) (hx : lv c = x) (hm : m ≠ 0) (hm' : m' = m - 2) (hn' : n' = (n * 64 + x) % 2 ^ m') (hb' : b' = (n * 64 + x) / 2 ^ m' % 256) : LooseAt S (j + 1) n' m' (o ++ [b']) := by
  have hbd := lv_bd c
  have hms := h.ms
  refine ⟨?_, ?_, h.byt.append ?_, by have := h.len; simp; omega, ?_⟩
  · rw [ht, loose_snoc, h.is, lst, if_pos (by simp only; omega), hx, hb', hn', hm']
  · rcases hms with ⟨e, h1, h2⟩ | ⟨e, h1, h2⟩ | ⟨e, h1, h2⟩ | ⟨e, h1, h2⟩
    · omega
    · subst e; subst hm'; subst hn'
      exact .inl ⟨rfl, by simp only [Nat.reduceSub, Int.reducePow]; omega, by simp only [Nat.reduceSub, Int.reducePow]; omega⟩
    · subst e; subst hm'; subst hn'
      exact .inr (.inl ⟨rfl, by simp only [Nat.reduceSub, Int.reducePow]; omega, by simp only [Nat.reduceSub, Int.reducePow]; omega⟩)
    · subst e; subst hm'; subst hn'
      exact .inr (.inr (.inl ⟨rfl, by simp only [Nat.reduceSub, Int.reducePow]; omega, by simp only [Nat.reduceSub, Int.reducePow]; omega⟩))
  · intro k hk
    simp at hk
    subst hk; subst hb'
    omega
  · intro d hd
    rw [ht] at hd
    rcases List.mem_append.1 hd with hd | hd
    · exact h.all d hd
    · simp at hd; subst hd; exact hc
theorem LooseAt.stay {S : List UInt8} {j : Nat} {n : Int} {o : List Int} {c : UInt8} (h : LooseAt S j n 0 o) (ht : S.take (j + 1) = S.take j ++ [c]) (hc : oneOf c) (x : Int) (hx : lv c = x) : LooseAt S (j + 1) (n * 64 + x) 6 o := by
  have hbd := lv_bd c
  have hms := h.ms
  refine ⟨?_, by omega, h.byt, by have := h.len; omega, ?_⟩
  · rw [ht, loose_snoc, h.is, lst, if_neg (by simp), hx]
  · intro d hd
    rw [ht] at hd
    rcases List.mem_append.1 hd with hd | hd
    · exact h.all d hd
    · simp at hd; subst hd; exact hc
set_option maxHeartbeats 1000000 in
theorem refdecode_any (s : ByteArray) (S : List UInt8) (hS : s.data.toList = S) (w : World) (hm : S.length ≤ 300) :
    Calls Try.prog 12 #[.string s] w fun e w' => (∃ v xs, e = .returned (.tuple #[v, .int .i64 0]) ∧ Byt xs ∧ enc xs = S ∧ SlV w' v (U xs) ∧ Below w.heap.size w w') ∨ (e = .returned (.tuple #[.slice none 0 0, .int .i64 3]) ∧ (∀ xs, Byt xs → enc xs ≠ S) ∧ Below w.heap.size w w') := by
  have hsz : s.size = S.length := by
    rw [← hS, Array.length_toList]; rfl
  go_enter Try.func12, Try.ntmps12
  go_wp2
  go_loopw [4, 5, 6, 7] (fun nv mv v iv wr => ∃ (j : Nat) (n : Int) (m : Nat) (o : List Int), j ≤ S.length ∧ iv = .int .i64 j ∧ nv = .int .i64 n ∧ mv = .int .i64 m ∧ wr.ownsRow w.heap.size 5 1 v o.length (U o) ∧ LooseAt S j n m o ∧ Below w.heap.size w wr) (fun _ _ _ iv _ => 300 - (intOf iv).toNat)
  case atStart => exact ⟨0, 0, 0, [], Nat.zero_le _, rfl, rfl, rfl, own_empty _ _ _ (Nat.le_refl _), ⟨rfl, by omega, Byt.nil, by simp, by simp⟩, (Below.refl _ _).alloc (Nat.le_refl _) _⟩
  case round =>
    obtain ⟨j, n, m, o, hj, rfl, rfl, rfl, hown, hL, hbw⟩ := hrel
    have hBw := hbw.size
    by_cases hlt : j < S.length
    · have hsj : s[j]'(by omega) = S[j] := by subst hS; rfl
      have HT := hide (take_snoc hlt)
      have HM : Hid (S[j] ∈ S) := List.getElem_mem hlt
      generalize S[j] = c at *
      have hlb := hL.len
      by_cases hv : val c < 0 ∧ c ≠ 61
      · have hno : ∀ xs, Byt xs → enc xs ≠ S := by
          intro xs hx he
          rcases enc_oneOf xs hx c (by rw [he]; exact unhide HM) with h | h
          · omega
          · exact hv.2 h
        obtain ⟨hv1, hv2⟩ := hv
        have d2 : (((c.toNat : Nat) : Int) != 61) = true := by
          simp; intro h; exact hv2 (UInt8.toNat_inj.1 (by simpa using (show c.toNat = 61 by omega)))
        go_wp2_with (go_at_call 16; refine (refvalue_any c _).mono ?_; rintro e w' ⟨rfl, rfl⟩)
        go_ret2
        exact .inr ⟨rfl, hno, hbw⟩
      · have hone : oneOf c := by
          unfold oneOf
          by_cases h61 : c = 61
          · exact .inr h61
          · left; rcases Int.lt_or_le (val c) 0 with h | h
            · exact absurd ⟨h, h61⟩ hv
            · exact h
        have HL := hide hL
        have hms := hL.ms
        clear hL
        by_cases hv0 : 0 ≤ val c
        · have hvl := val_lt c
          have HX : Hid (lv c = val c) := by rw [Hid, lv, if_neg (by omega)]
          clear hv
          rcases hms with ⟨rfl, hn1, hn2⟩ | ⟨rfl, hn1, hn2⟩ | ⟨rfl, hn1, hn2⟩ | ⟨rfl, hn1, hn2⟩
          · go_wp2_with (go_at_call 16; refine (refvalue_any c _).mono ?_; rintro e w' ⟨rfl, rfl⟩)
            refine ⟨⟨j + 1, _, 6, o, by omega, by go_num, rfl, rfl, hown, by simpa using (unhide HL).stay (unhide HT) hone _ (unhide HX), hbw⟩, by simp [intOf]; omega⟩
          · go_wp2_with (first
              | (go_at_call 16; refine (refvalue_any c _).mono ?_; rintro e w' ⟨rfl, rfl⟩)
              | (at_builtin; refine wpList_append_sl rfl (.tmp 37) (.tmp 43) 22 rfl w.heap.size 5 _ 1 Try.underlying22 Try.info5 rfl _ _ _ rfl (own_below hown ((Below.refl _ _).alloc (Nat.le_refl _) _)) _ _ rfl (SlV_one _ _ _) (by simp [Value.oneCell']) (by simp; unfold maxLen; omega) (by simp; omega) (by simp; omega) ?_))
            intro v3 w3 ho3 hg3
            have hb3 : Below w.heap.size w w3 := (hbw.alloc hBw _).grown hg3 (by simp; omega) (fun k hk => (hown.lt k hk).1)
            clear hg3 hown
            go_wp2
            refine ⟨⟨j + 1, _, 0, o ++ [_], by omega, by go_num, rfl, rfl, by rw [U_append, List.length_append]; exact ho3, (unhide HL).grow (unhide HT) hone _ _ _ 0 (unhide HX) (by decide) rfl ?_ ?_, hb3⟩, by simp [intOf]; omega⟩
            · simp only [Int.reducePow] <;> omega
            · simp only [Int.reducePow] <;> omega
          · go_wp2_with (first
              | (go_at_call 16; refine (refvalue_any c _).mono ?_; rintro e w' ⟨rfl, rfl⟩)
              | (at_builtin; refine wpList_append_sl rfl (.tmp 37) (.tmp 43) 22 rfl w.heap.size 5 _ 1 Try.underlying22 Try.info5 rfl _ _ _ rfl (own_below hown ((Below.refl _ _).alloc (Nat.le_refl _) _)) _ _ rfl (SlV_one _ _ _) (by simp [Value.oneCell']) (by simp; unfold maxLen; omega) (by simp; omega) (by simp; omega) ?_))
            intro v3 w3 ho3 hg3
            have hb3 : Below w.heap.size w w3 := (hbw.alloc hBw _).grown hg3 (by simp; omega) (fun k hk => (hown.lt k hk).1)
            clear hg3 hown
            go_wp2
            refine ⟨⟨j + 1, _, 2, o ++ [_], by omega, by go_num, rfl, rfl, by rw [U_append, List.length_append]; exact ho3, (unhide HL).grow (unhide HT) hone _ _ _ 2 (unhide HX) (by decide) rfl ?_ ?_, hb3⟩, by simp [intOf]; omega⟩
            · simp only [Int.reducePow] <;> omega
            · simp only [Int.reducePow] <;> omega
          · go_wp2_with (first
              | (go_at_call 16; refine (refvalue_any c _).mono ?_; rintro e w' ⟨rfl, rfl⟩)
              | (at_builtin; refine wpList_append_sl rfl (.tmp 37) (.tmp 43) 22 rfl w.heap.size 5 _ 1 Try.underlying22 Try.info5 rfl _ _ _ rfl (own_below hown ((Below.refl _ _).alloc (Nat.le_refl _) _)) _ _ rfl (SlV_one _ _ _) (by simp [Value.oneCell']) (by simp; unfold maxLen; omega) (by simp; omega) (by simp; omega) ?_))
            intro v3 w3 ho3 hg3
            have hb3 : Below w.heap.size w w3 := (hbw.alloc hBw _).grown hg3 (by simp; omega) (fun k hk => (hown.lt k hk).1)
            clear hg3 hown
            go_wp2
            refine ⟨⟨j + 1, _, 4, o ++ [_], by omega, by go_num, rfl, rfl, by rw [U_append, List.length_append]; exact ho3, (unhide HL).grow (unhide HT) hone _ _ _ 4 (unhide HX) (by decide) rfl ?_ ?_, hb3⟩, by simp [intOf]; omega⟩
            · simp only [Int.reducePow] <;> omega
            · simp only [Int.reducePow] <;> omega
        · have h61 : c = 61 := by
            rcases hone with h | h
            · exact absurd h hv0
            · exact h
          have hvn : val c < 0 := by omega
          have HX : Hid (lv c = 0) := by rw [Hid, lv, if_pos hvn]
          have d2 : (((c.toNat : Nat) : Int) != 61) = false := by rw [h61]; rfl
          clear hv h61 hv0
          rcases hms with ⟨rfl, hn1, hn2⟩ | ⟨rfl, hn1, hn2⟩ | ⟨rfl, hn1, hn2⟩ | ⟨rfl, hn1, hn2⟩
          · go_wp2_with (go_at_call 16; refine (refvalue_any c _).mono ?_; rintro e w' ⟨rfl, rfl⟩)
            refine ⟨⟨j + 1, _, 6, o, by omega, by go_num, rfl, rfl, hown, by simpa using (unhide HL).stay (unhide HT) hone _ (unhide HX), hbw⟩, by simp [intOf]; omega⟩
          · go_wp2_with (first
              | (go_at_call 16; refine (refvalue_any c _).mono ?_; rintro e w' ⟨rfl, rfl⟩)
              | (at_builtin; refine wpList_append_sl rfl (.tmp 37) (.tmp 43) 22 rfl w.heap.size 5 _ 1 Try.underlying22 Try.info5 rfl _ _ _ rfl (own_below hown ((Below.refl _ _).alloc (Nat.le_refl _) _)) _ _ rfl (SlV_one _ _ _) (by simp [Value.oneCell']) (by simp; unfold maxLen; omega) (by simp; omega) (by simp; omega) ?_))
            intro v3 w3 ho3 hg3
            have hb3 : Below w.heap.size w w3 := (hbw.alloc hBw _).grown hg3 (by simp; omega) (fun k hk => (hown.lt k hk).1)
            clear hg3 hown
            go_wp2
            refine ⟨⟨j + 1, _, 0, o ++ [_], by omega, by go_num, rfl, rfl, by rw [U_append, List.length_append]; exact ho3, (unhide HL).grow (unhide HT) hone _ _ _ 0 (unhide HX) (by decide) rfl ?_ ?_, hb3⟩, by simp [intOf]; omega⟩
            · simp only [Int.reducePow] <;> omega
            · simp only [Int.reducePow] <;> omega
          · go_wp2_with (first
              | (go_at_call 16; refine (refvalue_any c _).mono ?_; rintro e w' ⟨rfl, rfl⟩)
              | (at_builtin; refine wpList_append_sl rfl (.tmp 37) (.tmp 43) 22 rfl w.heap.size 5 _ 1 Try.underlying22 Try.info5 rfl _ _ _ rfl (own_below hown ((Below.refl _ _).alloc (Nat.le_refl _) _)) _ _ rfl (SlV_one _ _ _) (by simp [Value.oneCell']) (by simp; unfold maxLen; omega) (by simp; omega) (by simp; omega) ?_))
            intro v3 w3 ho3 hg3
            have hb3 : Below w.heap.size w w3 := (hbw.alloc hBw _).grown hg3 (by simp; omega) (fun k hk => (hown.lt k hk).1)
            clear hg3 hown
            go_wp2
            refine ⟨⟨j + 1, _, 2, o ++ [_], by omega, by go_num, rfl, rfl, by rw [U_append, List.length_append]; exact ho3, (unhide HL).grow (unhide HT) hone _ _ _ 2 (unhide HX) (by decide) rfl ?_ ?_, hb3⟩, by simp [intOf]; omega⟩
            · simp only [Int.reducePow] <;> omega
            · simp only [Int.reducePow] <;> omega
          · go_wp2_with (first
              | (go_at_call 16; refine (refvalue_any c _).mono ?_; rintro e w' ⟨rfl, rfl⟩)
              | (at_builtin; refine wpList_append_sl rfl (.tmp 37) (.tmp 43) 22 rfl w.heap.size 5 _ 1 Try.underlying22 Try.info5 rfl _ _ _ rfl (own_below hown ((Below.refl _ _).alloc (Nat.le_refl _) _)) _ _ rfl (SlV_one _ _ _) (by simp [Value.oneCell']) (by simp; unfold maxLen; omega) (by simp; omega) (by simp; omega) ?_))
            intro v3 w3 ho3 hg3
            have hb3 : Below w.heap.size w w3 := (hbw.alloc hBw _).grown hg3 (by simp; omega) (fun k hk => (hown.lt k hk).1)
            clear hg3 hown
            go_wp2
            refine ⟨⟨j + 1, _, 4, o ++ [_], by omega, by go_num, rfl, rfl, by rw [U_append, List.length_append]; exact ho3, (unhide HL).grow (unhide HT) hone _ _ _ 4 (unhide HX) (by decide) rfl ?_ ?_, hb3⟩, by simp [intOf]; omega⟩
            · simp only [Int.reducePow] <;> omega
            · simp only [Int.reducePow] <;> omega
    · obtain rfl : j = S.length := by omega
      have hfin : ∀ xs, Byt xs → enc xs = S → ∃ p, p ≤ 2 ∧ p ≤ o.length ∧ o.take (o.length - p) = xs := by
        intro xs hx he
        obtain ⟨p, hp, hq⟩ := loose_of xs hx
        rw [he] at hq
        have hi := hL.is
        rw [List.take_length] at hi
        rw [hi] at hq
        have hq : o = xs ++ List.replicate p 0 := hq
        have hl := congrArg List.length hq
        rw [List.length_append, List.length_replicate] at hl
        refine ⟨p, hp, by omega, ?_⟩
        rw [show o.length - p = xs.length by omega, hq, List.take_left']
        rfl
      have HF := hide hfin
      have hbo := hL.byt
      have hol := hL.len
      have hsl := SlV.ofOwn hown
      obtain ⟨a, cap, rfl, hc, hcm⟩ := hsl.shapeU rfl
      clear hfin hL hown
      go_wp2
      go_loop [9] (fun kv => ∃ k : Nat, k ≤ 3 ∧ kv = .int .i64 k ∧ ∀ i, i < k → i ≤ o.length → enc (o.take (o.length - i)) ≠ S) (fun kv => 3 - (intOf kv).toNat)
      case atStart => exact ⟨0, by omega, rfl, fun i h => by omega⟩
      case round =>
        obtain ⟨k, hk, rfl, hne⟩ := hrel
        have HNE := hide hne
        clear hne
        by_cases hk3 : k < 3
        · by_cases hko : k ≤ o.length
          · have d1 : decide ((k : Int) ≤ (o.length : Int)) = true := by simp; omega
            have hup := hsl.upto (o.length - k) (by omega)
            rw [← U_take] at hup
            have HLn : Hid ((o.take (o.length - k)).length = o.length - k) := by rw [Hid, List.length_take]; omega
            have hbt := hbo.take (o.length - k)
            generalize hys : o.take (o.length - k) = ys at *
            have HY := hide hys
            clear hys
            by_cases he : enc ys = S
            · have HE : Hid ((⟨(enc ys).toArray⟩ : ByteArray) = s) := by rw [Hid, he, ← hS]
              go_wp2_with (go_at_call 10; refine (refencode_any _ ys _ hup hbt (by rw [unhide HLn]; omega)).mono ?_; rw [unhide HE]; rintro e w4 ⟨rfl, rfl⟩)
              go_ret2
              exact .inl ⟨_, ys, rfl, hbt, he, hup, hbw⟩
            · have d3 : (enc ys == s.toList) = false := by
                rw [Lib.toList_data, hS]; simpa using he
              go_wp2_with (go_at_call 10; refine (refencode_any _ ys _ hup hbt (by rw [unhide HLn]; omega)).mono ?_; rintro e w4 ⟨rfl, rfl⟩)
              refine ⟨⟨k + 1, by omega, by go_num, fun i hi hio => ?_⟩, by simp [intOf]; omega⟩
              by_cases hik : i = k
              · subst hik; rw [unhide HY]; exact he
              · exact unhide HNE i (by omega) hio
          · have d1 : decide ((k : Int) ≤ (o.length : Int)) = false := by simp; omega
            go_wp2
            refine ⟨⟨k + 1, by omega, by go_num, fun i hi hio => ?_⟩, by simp [intOf]; omega⟩
            exact unhide HNE i (by omega) hio
        · obtain rfl : k = 3 := by omega
          go_wp2
          go_ret2
          refine .inr ⟨rfl, fun xs hx he => ?_, hbw⟩
          obtain ⟨p, hp, hpo, hq⟩ := unhide HF xs hx he
          exact unhide HNE p (by omega) hpo (by rw [hq]; exact he)
end Go.Proofs.Ytaamokcoccjjmaa
