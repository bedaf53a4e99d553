/-
  Plain mathematics of bytes as letters of six bits: lists alone, no program. Conditions: bytes are 0 to 255 where it says so.
-/
import Derived.Test.YtaamokcoccjjmaaKit
import Derived.Lib.Strings
import Derived.Lib.Bytealg
namespace Go.Proofs.Ytaamokcoccjjmaa
open Go.RowKit
set_option linter.unusedVariables false

/-- The letters, in order. -/
def ABC : List UInt8 := [65, 66, 67, 68, 69, 70, 71, 72, 73, 74, 75, 76, 77, 78, 79, 80, 81, 82, 83, 84, 85, 86, 87, 88, 89, 90, 97, 98, 99, 100, 101, 102, 103, 104, 105, 106, 107, 108, 109, 110, 111, 112, 113, 114, 115, 116, 117, 118, 119, 120, 121, 122, 48, 49, 50, 51, 52, 53, 54, 55, 56, 57, 43, 47]
/-- A number's letter. -/
def ltr (n : Int) : UInt8 := ABC.getD n.toNat 0
/-- A letter's number, or -1. -/
def val (c : UInt8) : Int := Lib.indexByte ABC c

theorem ABC_length : ABC.length = 64 := rfl
theorem val_ltr_nat : ∀ k < 64, val (ltr (k : Nat)) = k := by decide +kernel
theorem val_ltr {n : Int} (h0 : 0 ≤ n) (h : n < 64) : val (ltr n) = n := by
  obtain ⟨k, rfl⟩ := Int.eq_ofNat_of_zero_le h0
  exact val_ltr_nat k (by omega)
theorem val_all : ∀ k < 256, -1 ≤ val (UInt8.ofNat k) ∧ val (UInt8.ofNat k) < 64 ∧ (0 ≤ val (UInt8.ofNat k) → ltr (val (UInt8.ofNat k)) = UInt8.ofNat k) := by decide +kernel
theorem ofNat_toNat8 (c : UInt8) : UInt8.ofNat c.toNat = c := by simp
theorem val_lt (c : UInt8) : val c < 64 := by have := (val_all c.toNat c.toNat_lt).2.1; rwa [ofNat_toNat8] at this
theorem val_ge (c : UInt8) : -1 ≤ val c := by have := (val_all c.toNat c.toNat_lt).1; rwa [ofNat_toNat8] at this
theorem ltr_val {c : UInt8} (h : 0 ≤ val c) : ltr (val c) = c := by have := (val_all c.toNat c.toNat_lt).2.2; rw [ofNat_toNat8] at this; exact this h
theorem val_pad : val 61 = -1 := by decide +kernel
theorem ltr_ne_pad {n : Int} (h0 : 0 ≤ n) (h : n < 64) : ltr n ≠ 61 := by
  intro e; have := val_ltr h0 h; rw [e, val_pad] at this; omega

/-- Bytes as letters, without what fills up. -/
def encU : List Int → List UInt8
  | [] => []
  | [a] => [ltr (a / 4), ltr (a % 4 * 16)]
  | [a, b] => [ltr (a / 4), ltr (a % 4 * 16 + b / 16), ltr (b % 16 * 4)]
  | a :: b :: c :: r => ltr (a / 4) :: ltr (a % 4 * 16 + b / 16) :: ltr (b % 16 * 4 + c / 64) :: ltr (c % 64) :: encU r
/-- Bytes as letters. -/
def enc : List Int → List UInt8
  | [] => []
  | [a] => [ltr (a / 4), ltr (a % 4 * 16), 61, 61]
  | [a, b] => [ltr (a / 4), ltr (a % 4 * 16 + b / 16), ltr (b % 16 * 4), 61]
  | a :: b :: c :: r => ltr (a / 4) :: ltr (a % 4 * 16 + b / 16) :: ltr (b % 16 * 4 + c / 64) :: ltr (c % 64) :: enc r
/-- The bytes of letters. -/
def decU : List UInt8 → Option (List Int)
  | [] => some []
  | [_] => none
  | [x, y] => if 0 ≤ val x ∧ 0 ≤ val y ∧ val y % 16 = 0 then some [val x * 4 + val y / 16] else none
  | [x, y, z] => if 0 ≤ val x ∧ 0 ≤ val y ∧ 0 ≤ val z ∧ val z % 4 = 0 then some [val x * 4 + val y / 16, val y % 16 * 16 + val z / 4] else none
  | x :: y :: z :: u :: r => if 0 ≤ val x ∧ 0 ≤ val y ∧ 0 ≤ val z ∧ 0 ≤ val u then (decU r).map fun t => (val x * 4 + val y / 16) :: (val y % 16 * 16 + val z / 4) :: (val z % 4 * 64 + val u) :: t else none

theorem byt_cons {a : Int} {r : List Int} : Byt (a :: r) ↔ (0 ≤ a ∧ a ≤ 255) ∧ Byt r := by simp [Byt]

theorem enc_pads : ∀ xs : List Int, enc xs = encU xs ++ List.replicate ((3 - xs.length % 3) % 3) 61
  | [] => rfl
  | [a] => rfl
  | [a, b] => rfl
  | a :: b :: c :: r => by
    have ih := enc_pads r
    have e : (a :: b :: c :: r).length % 3 = r.length % 3 := by simp; omega
    rw [e, enc, encU, ih]; rfl
theorem encU_length : ∀ xs : List Int, (encU xs).length = (xs.length * 4 + 2) / 3
  | [] => rfl
  | [a] => by simp [encU]
  | [a, b] => by simp [encU]
  | a :: b :: c :: r => by
    have ih := encU_length r
    simp [encU, ih]; omega
theorem enc_length : ∀ xs : List Int, (enc xs).length = (xs.length + 2) / 3 * 4
  | [] => rfl
  | [a] => by simp [enc]
  | [a, b] => by simp [enc]
  | a :: b :: c :: r => by
    have ih := enc_length r
    simp [enc, ih]; omega

theorem decU_encU : ∀ xs : List Int, Byt xs → decU (encU xs) = some xs
  | [], _ => rfl
  | [a], h => by
    simp only [byt_cons] at h
    simp only [encU, decU]
    rw [val_ltr (by omega) (by omega), val_ltr (by omega) (by omega), if_pos (by omega)]
    simp; omega
  | [a, b], h => by
    simp only [byt_cons] at h
    simp only [encU, decU]
    rw [val_ltr (by omega) (by omega), val_ltr (by omega) (by omega), val_ltr (by omega) (by omega), if_pos (by omega)]
    simp; omega
  | a :: b :: c :: r, h => by
    simp only [byt_cons] at h
    have ih := decU_encU r h.2.2.2
    simp only [encU, decU]
    rw [val_ltr (by omega) (by omega), val_ltr (by omega) (by omega), val_ltr (by omega) (by omega), val_ltr (by omega) (by omega), if_pos (by omega), ih]
    simp; omega
theorem encU_decU : ∀ (s : List UInt8) (xs : List Int), decU s = some xs → Byt xs ∧ encU xs = s
  | [], xs, h => by simp [decU] at h; subst h; exact ⟨Byt.nil, rfl⟩
  | [_], xs, h => by simp [decU] at h
  | [x, y], xs, h => by
    simp only [decU] at h
    split at h
    · rename_i hc
      have := val_lt x; have := val_lt y
      simp only [Option.some.injEq] at h; subst h
      refine ⟨by simp only [byt_cons]; exact ⟨by omega, Byt.nil⟩, ?_⟩
      simp only [encU]
      rw [show (val x * 4 + val y / 16) / 4 = val x by omega, show (val x * 4 + val y / 16) % 4 * 16 = val y by omega, ltr_val hc.1, ltr_val hc.2.1]
    · cases h
  | [x, y, z], xs, h => by
    simp only [decU] at h
    split at h
    · rename_i hc
      have := val_lt x; have := val_lt y; have := val_lt z
      simp only [Option.some.injEq] at h; subst h
      refine ⟨by simp only [byt_cons]; exact ⟨by omega, by omega, Byt.nil⟩, ?_⟩
      simp only [encU]
      rw [show (val x * 4 + val y / 16) / 4 = val x by omega, show (val x * 4 + val y / 16) % 4 * 16 + (val y % 16 * 16 + val z / 4) / 16 = val y by omega, show (val y % 16 * 16 + val z / 4) % 16 * 4 = val z by omega, ltr_val hc.1, ltr_val hc.2.1, ltr_val hc.2.2.1]
    · cases h
  | x :: y :: z :: u :: r, xs, h => by
    simp only [decU] at h
    split at h
    · rename_i hc
      have := val_lt x; have := val_lt y; have := val_lt z; have := val_lt u
      obtain ⟨t, ht, rfl⟩ := Option.map_eq_some_iff.1 h
      have ih := encU_decU r t ht
      refine ⟨by simp only [byt_cons]; exact ⟨by omega, by omega, by omega, ih.1⟩, ?_⟩
      simp only [encU, ih.2]
      rw [show (val x * 4 + val y / 16) / 4 = val x by omega, show (val x * 4 + val y / 16) % 4 * 16 + (val y % 16 * 16 + val z / 4) / 16 = val y by omega, show (val y % 16 * 16 + val z / 4) % 16 * 4 + (val z % 4 * 64 + val u) / 64 = val z by omega, show (val z % 4 * 64 + val u) % 64 = val u by omega, ltr_val hc.1, ltr_val hc.2.1, ltr_val hc.2.2.1, ltr_val hc.2.2.2]
    · cases h

/-- No letter of bytes is what fills up. -/
theorem encU_nopad : ∀ xs : List Int, Byt xs → ∀ c ∈ encU xs, c ≠ 61
  | [], _ => by simp [encU]
  | [a], h => by
    simp only [byt_cons] at h
    have h1 := ltr_ne_pad (n := a / 4) (by omega) (by omega); have h2 := ltr_ne_pad (n := a % 4 * 16) (by omega) (by omega)
    simp [encU, h1, h2]
  | [a, b], h => by
    simp only [byt_cons] at h
    have h1 := ltr_ne_pad (n := a / 4) (by omega) (by omega); have h2 := ltr_ne_pad (n := a % 4 * 16 + b / 16) (by omega) (by omega); have h3 := ltr_ne_pad (n := b % 16 * 4) (by omega) (by omega)
    simp [encU, h1, h2, h3]
  | a :: b :: c :: r, h => by
    simp only [byt_cons] at h
    have h1 := ltr_ne_pad (n := a / 4) (by omega) (by omega); have h2 := ltr_ne_pad (n := a % 4 * 16 + b / 16) (by omega) (by omega); have h3 := ltr_ne_pad (n := b % 16 * 4 + c / 64) (by omega) (by omega); have h4 := ltr_ne_pad (n := c % 64) (by omega) (by omega)
    have ih := encU_nopad r h.2.2.2
    intro d hd
    simp only [encU, List.mem_cons] at hd
    rcases hd with rfl | rfl | rfl | rfl | hd
    · exact h1
    · exact h2
    · exact h3
    · exact h4
    · exact ih d hd

/-- One sign that fills up is taken off the end. -/
def trim1 (s : List UInt8) : List UInt8 := Lib.trimSuffix s [61]
theorem trim1_snoc (s : List UInt8) : trim1 (s ++ [61]) = s := by
  unfold trim1 Lib.trimSuffix Lib.hasSuffix
  rw [if_pos (by simp [List.isSuffixOf_iff_suffix])]
  simp
theorem trim1_none (s : List UInt8) (h : ∀ c ∈ s, c ≠ 61) : trim1 s = s := by
  unfold trim1 Lib.trimSuffix Lib.hasSuffix
  rw [if_neg]
  rw [List.isSuffixOf_iff_suffix]
  rintro ⟨t, ht⟩
  exact h 61 (by rw [← ht]; simp) rfl
theorem trim1_cases (s : List UInt8) : trim1 s = s ∨ s = trim1 s ++ [61] := by
  by_cases h : ([61] : List UInt8).isSuffixOf s
  · obtain ⟨t, ht⟩ := List.isSuffixOf_iff_suffix.1 h
    right; rw [← ht, trim1_snoc]
  · left; unfold trim1 Lib.trimSuffix Lib.hasSuffix; rw [if_neg h]
/-- Up to two are taken off. -/
def trim2 (s : List UInt8) : List UInt8 := trim1 (trim1 s)
theorem trim2_enc (xs : List Int) (h : Byt xs) : trim2 (enc xs) = encU xs := by
  have hn := trim1_none _ (encU_nopad xs h)
  have hm : xs.length % 3 = 0 ∨ xs.length % 3 = 1 ∨ xs.length % 3 = 2 := by omega
  rw [enc_pads, trim2]
  rcases hm with e | e | e <;> rw [e]
  · simp [hn]
  · rw [show List.replicate ((3 - 1) % 3) (61 : UInt8) = [61] ++ [61] from rfl, ← List.append_assoc, trim1_snoc, trim1_snoc]
  · rw [show List.replicate ((3 - 2) % 3) (61 : UInt8) = [61] from rfl, trim1_snoc, hn]
theorem trim2_cases (s : List UInt8) : ∃ p, p ≤ 2 ∧ s = trim2 s ++ List.replicate p 61 := by
  unfold trim2
  rcases trim1_cases s with h | h
  · rw [h]
    rcases trim1_cases s with h | h
    · exact ⟨0, by omega, by rw [h]; simp⟩
    · exact ⟨1, by omega, h⟩
  · rcases trim1_cases (trim1 s) with h' | h'
    · exact ⟨1, by omega, by rw [h']; exact h⟩
    · refine ⟨2, by omega, ?_⟩
      rw [show List.replicate 2 (61 : UInt8) = [61] ++ [61] from rfl, ← List.append_assoc, ← h', ← h]
theorem trim2_mod (s : List UInt8) (h : s.length % 4 = 0) : (trim2 s).length % 4 ≠ 1 := by
  obtain ⟨p, hp, e⟩ := trim2_cases s
  have := congrArg List.length e
  simp at this; omega
theorem trim2_le (s : List UInt8) : (trim2 s).length ≤ s.length := by
  obtain ⟨p, hp, e⟩ := trim2_cases s
  have := congrArg List.length e
  simp at this; omega
/-- What is decoded is encoded as it was. -/
theorem enc_of_dec (s : List UInt8) (xs : List Int) (h4 : s.length % 4 = 0) (h : decU (trim2 s) = some xs) : Byt xs ∧ enc xs = s := by
  obtain ⟨hb, he⟩ := encU_decU _ _ h
  refine ⟨hb, ?_⟩
  obtain ⟨p, hp, e⟩ := trim2_cases s
  rw [enc_pads]
  have hl := congrArg List.length e
  rw [← he, List.length_append, encU_length, List.length_replicate] at hl
  have hpe : p = (3 - xs.length % 3) % 3 := by
    have hm : xs.length % 3 = 0 ∨ xs.length % 3 = 1 ∨ xs.length % 3 = 2 := by omega
    rcases hm with e | e | e <;> rw [e] <;> omega
  rw [he, ← hpe]; exact e.symm
theorem dec_of_enc (xs : List Int) (h : Byt xs) : decU (trim2 (enc xs)) = some xs := by rw [trim2_enc xs h, decU_encU xs h]
theorem enc_inj {xs ys : List Int} (hx : Byt xs) (hy : Byt ys) (h : enc xs = enc ys) : xs = ys := by
  have a := dec_of_enc xs hx
  rw [h, dec_of_enc ys hy] at a
  simpa using a.symm

/-- The first three bytes, then the others. -/
theorem enc_step (xs : List Int) : enc xs = enc (xs.take 3) ++ enc (xs.drop 3) := by
  match xs with
  | [] => rfl
  | [a] => rfl
  | [a, b] => rfl
  | a :: b :: c :: r => simp [enc]

end Go.Proofs.Ytaamokcoccjjmaa
