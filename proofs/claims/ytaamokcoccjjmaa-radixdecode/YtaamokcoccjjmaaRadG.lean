/-
  The document's own answer for Encode, bit by bit: what its functions return, over this seat's translation. Conditions: at most 1000 bytes.
-/
import Derived.Test.YtaamokcoccjjmaaRadF
namespace Go.Proofs.Ytaamokcoccjjmaa
open Go.RowKit
set_option linter.unusedVariables false
/-- The i-th bit of bytes, the highest first. -/
def bitI (xs : List Int) (i : Nat) : Int := xs.getD (i / 8) 0 / 2 ^ (7 - i % 8) % 2
/-- Bits, one behind the other. -/
def bitsTo (xs : List Int) (at_ : Nat) : Nat → Int
  | 0 => 0
  | k + 1 => bitsTo xs at_ k * 2 + bitI xs (at_ + k)
def lets (xs : List Int) (J : Nat) : List UInt8 := (List.range J).map fun j => ltr (bitsTo xs (6 * j) 6)
theorem lets_length (xs : List Int) (J : Nat) : (lets xs J).length = J := by simp [lets]
theorem bits0 (xs : List Int) (h : Byt xs) : bitsTo xs 0 6 = xs.getD 0 0 / 4 ∧ bitsTo xs 6 6 = xs.getD 0 0 % 4 * 16 + xs.getD 1 0 / 16 ∧ bitsTo xs 12 6 = xs.getD 1 0 % 16 * 4 + xs.getD 2 0 / 64 ∧ bitsTo xs 18 6 = xs.getD 2 0 % 64 := by
  have h0 := getD_byt h 0; have h1 := getD_byt h 1; have h2 := getD_byt h 2
  simp only [bitsTo, bitI, Nat.reduceAdd, Nat.reduceDiv, Nat.reduceMod, Nat.reduceSub, Int.reducePow]
  generalize xs.getD 0 0 = a at *
  generalize xs.getD 1 0 = b at *
  generalize xs.getD 2 0 = c at *
  refine ⟨?_, ?_, ?_, ?_⟩ <;> omega
theorem bitI_shift (a b c : Int) (r : List Int) (i : Nat) : bitI (a :: b :: c :: r) (i + 24) = bitI r i := by
  unfold bitI
  rw [show (i + 24) / 8 = i / 8 + 3 by omega, show (i + 24) % 8 = i % 8 by omega]
  simp
theorem bitsTo_shift (a b c : Int) (r : List Int) (i k : Nat) : bitsTo (a :: b :: c :: r) (i + 24) k = bitsTo r i k := by
  induction k with
  | zero => rfl
  | succ k ih => rw [bitsTo, bitsTo, ih, show i + 24 + k = (i + k) + 24 by omega, bitI_shift]
theorem range4 (J : Nat) : List.range (J + 4) = 0 :: 1 :: 2 :: 3 :: (List.range J).map (· + 4) := by
  simp [List.range_succ_eq_map, Nat.add_assoc]
theorem lets_four (a b c : Int) (r : List Int) (h : Byt (a :: b :: c :: r)) (J : Nat) : lets (a :: b :: c :: r) (J + 4) = ltr (a / 4) :: ltr (a % 4 * 16 + b / 16) :: ltr (b % 16 * 4 + c / 64) :: ltr (c % 64) :: lets r J := by
  obtain ⟨h0, h1, h2, h3⟩ := bits0 _ h
  unfold lets
  rw [range4]
  simp only [List.map_cons, List.map_map, Nat.reduceMul, h0, h1, h2, h3]
  simp [Function.comp_def, Nat.mul_add, bitsTo_shift]
theorem lets_encU : ∀ xs : List Int, Byt xs → lets xs ((xs.length * 4 + 2) / 3) = encU xs
  | [], _ => rfl
  | [a], h => by
    obtain ⟨h0, h1, h2, h3⟩ := bits0 _ h
    have e : ([a].length * 4 + 2) / 3 = 2 := by simp
    rw [e, lets, show List.range 2 = [0, 1] from rfl]
    simp only [List.map_cons, Nat.reduceMul, h0, h1]
    simp [encU]
  | [a, b], h => by
    obtain ⟨h0, h1, h2, h3⟩ := bits0 _ h
    have e : ([a, b].length * 4 + 2) / 3 = 3 := by simp
    rw [e, lets, show List.range 3 = [0, 1, 2] from rfl]
    simp only [List.map_cons, Nat.reduceMul, h0, h1, h2]
    simp [encU]
  | a :: b :: c :: r, h => by
    have hr : Byt r := by simp only [byt_cons] at h; exact h.2.2.2
    have ih := lets_encU r hr
    have e : ((a :: b :: c :: r).length * 4 + 2) / 3 = (r.length * 4 + 2) / 3 + 4 := by simp; omega
    rw [e, lets_four a b c r h, ih, encU]
theorem lets_enc (xs : List Int) (h : Byt xs) (J : Nat) (h1 : 6 * J < 8 * xs.length + 6) (h2 : 8 * xs.length ≤ 6 * J) : lets xs J ++ List.replicate ((4 - J % 4) % 4) 61 = enc xs := by
  have hJ : J = (xs.length * 4 + 2) / 3 := by omega
  have hp : (4 - J % 4) % 4 = (3 - xs.length % 3) % 3 := by
    have hm : xs.length % 3 = 0 ∨ xs.length % 3 = 1 ∨ xs.length % 3 = 2 := by omega
    have hj : J % 4 = 0 ∨ J % 4 = 1 ∨ J % 4 = 2 ∨ J % 4 = 3 := by omega
    rcases hm with e | e | e <;> rw [e] <;> rcases hj with e' | e' | e' | e' <;> rw [e'] <;> omega
  rw [enc_pads, hp, hJ, lets_encU xs h]
theorem str_append (l m : List UInt8) : (⟨l.toArray⟩ : ByteArray) ++ ⟨m.toArray⟩ = ⟨(l ++ m).toArray⟩ := by
  rw [ByteArray.ext_iff]
  simp [ByteArray.data_append]
theorem abc_cut (k : Nat) (h : k < 64) : (⟨#[65, 66, 67, 68, 69, 70, 71, 72, 73, 74, 75, 76, 77, 78, 79, 80, 81, 82, 83, 84, 85, 86, 87, 88, 89, 90, 97, 98, 99, 100, 101, 102, 103, 104, 105, 106, 107, 108, 109, 110, 111, 112, 113, 114, 115, 116, 117, 118, 119, 120, 121, 122, 48, 49, 50, 51, 52, 53, 54, 55, 56, 57, 43, 47]⟩ : ByteArray).extract k (k + 1) = ⟨[ltr (k : Int)].toArray⟩ := by
  revert h
  revert k
  decide +kernel
theorem bitI_bd (xs : List Int) (i : Nat) : 0 ≤ bitI xs i ∧ bitI xs i ≤ 1 := by unfold bitI; omega
theorem bitsTo_bd (xs : List Int) (a k : Nat) (hk : k ≤ 6) : 0 ≤ bitsTo xs a k ∧ bitsTo xs a k < 64 ∧ (k < 6 → bitsTo xs a k < 32) := by
  have h0 := bitI_bd xs (a + 0); have h1 := bitI_bd xs (a + 1); have h2 := bitI_bd xs (a + 2); have h3 := bitI_bd xs (a + 3); have h4 := bitI_bd xs (a + 4); have h5 := bitI_bd xs (a + 5)
  have hk' : k = 0 ∨ k = 1 ∨ k = 2 ∨ k = 3 ∨ k = 4 ∨ k = 5 ∨ k = 6 := by omega
  rcases hk' with rfl | rfl | rfl | rfl | rfl | rfl | rfl <;> simp only [bitsTo] <;> omega
theorem bit_any (v : Value) (xs : List Int) (i : Nat) (w : World) (hs : SlV w v (U xs)) (hb : Byt xs) (hm : xs.length ≤ 1000) (hi : i ≤ 100000) :
    Calls Try.prog 21 #[v, .int .i64 (i : Int)] w fun e w' => e = .returned (.int .i64 (bitI xs i)) ∧ w = w' := by
  obtain ⟨a, cap, hv, hc, hcm⟩ := hs.shapeU rfl
  subst hv
  by_cases hl : i / 8 < xs.length
  · obtain ⟨b, off, rfl, hbl, hcell⟩ := hs.cells (by rw [U_length]; omega)
    have hck := hcell _ _ (U_getD hl)
    have hx := getD_byt hb (i / 8)
    have d1 : decide ((xs.length : Int) ≤ (i : Int) / 8) = false := by simp; omega
    have HB : Hid (bitI xs i = xs.getD (i / 8) 0 / 2 ^ (7 - i % 8) % 2) := rfl
    clear hcell
    generalize xs.getD (i / 8) 0 = x at *
    have h8 : i % 8 = 0 ∨ i % 8 = 1 ∨ i % 8 = 2 ∨ i % 8 = 3 ∨ i % 8 = 4 ∨ i % 8 = 5 ∨ i % 8 = 6 ∨ i % 8 = 7 := by omega
    rcases h8 with e | e | e | e | e | e | e | e
    · rw [e] at HB
      have h8i : (i : Int) % 8 = 0 := by omega
      go_enter Try.func21, Try.ntmps21
      go_wp2
      go_ret
      exact ⟨ret_int (unhide HB).symm, rfl⟩
    · rw [e] at HB
      have h8i : (i : Int) % 8 = 1 := by omega
      go_enter Try.func21, Try.ntmps21
      go_wp2
      go_ret
      exact ⟨ret_int (unhide HB).symm, rfl⟩
    · rw [e] at HB
      have h8i : (i : Int) % 8 = 2 := by omega
      go_enter Try.func21, Try.ntmps21
      go_wp2
      go_ret
      exact ⟨ret_int (unhide HB).symm, rfl⟩
    · rw [e] at HB
      have h8i : (i : Int) % 8 = 3 := by omega
      go_enter Try.func21, Try.ntmps21
      go_wp2
      go_ret
      exact ⟨ret_int (unhide HB).symm, rfl⟩
    · rw [e] at HB
      have h8i : (i : Int) % 8 = 4 := by omega
      go_enter Try.func21, Try.ntmps21
      go_wp2
      go_ret
      exact ⟨ret_int (unhide HB).symm, rfl⟩
    · rw [e] at HB
      have h8i : (i : Int) % 8 = 5 := by omega
      go_enter Try.func21, Try.ntmps21
      go_wp2
      go_ret
      exact ⟨ret_int (unhide HB).symm, rfl⟩
    · rw [e] at HB
      have h8i : (i : Int) % 8 = 6 := by omega
      go_enter Try.func21, Try.ntmps21
      go_wp2
      go_ret
      exact ⟨ret_int (unhide HB).symm, rfl⟩
    · rw [e] at HB
      have h8i : (i : Int) % 8 = 7 := by omega
      go_enter Try.func21, Try.ntmps21
      go_wp2
      go_ret
      exact ⟨ret_int (by rw [unhide HB]; simp), rfl⟩
  · have d1 : decide ((xs.length : Int) ≤ (i : Int) / 8) = true := by simp; omega
    have HB : Hid (bitI xs i = 0) := by
      simp [Hid, bitI, List.getD, List.getElem?_eq_none (Nat.le_of_not_lt hl)]
    go_enter Try.func21, Try.ntmps21
    go_wp2
    go_ret
    exact ⟨ret_int (unhide HB).symm, rfl⟩
/-- How long a string is. -/
def lenT : Value → Nat
  | .string s => s.size
  | _ => 0
theorem lenT_of (l : List UInt8) : lenT (.string ⟨l.toArray⟩) = l.length := by simp [lenT, ByteArray.size]
theorem lets_succ (xs : List Int) (J : Nat) : lets xs (J + 1) = lets xs J ++ [ltr (bitsTo xs (6 * J) 6)] := by simp [lets, List.range_succ]
set_option maxHeartbeats 400000 in
theorem refencode_any (v : Value) (xs : List Int) (w : World) (hs : SlV w v (U xs)) (hb : Byt xs) (hm : xs.length ≤ 1000) :
    Calls Try.prog 10 #[v] w fun e w' => e = .returned (.string ⟨(enc xs).toArray⟩) ∧ w = w' := by
  have hsh := hs
  obtain ⟨a, cap, hv, hc, hcm⟩ := hs.shapeU rfl
  subst hv
  go_enter Try.func10, Try.ntmps10
  go_wp2
  go_loop [3, 4] (fun s i => ∃ j : Nat, 6 * j < 8 * xs.length + 6 ∧ i = .int .i64 (6 * j : Nat) ∧ s = .string ⟨(lets xs j).toArray⟩) (fun _ i => 8 * xs.length + 6 - (intOf i).toNat)
  case atStart => exact ⟨0, by omega, rfl, rfl⟩
  case round =>
    obtain ⟨j, hj, rfl, rfl⟩ := hrel
    by_cases hlt : 6 * j < 8 * xs.length
    · have d1 : decide (((6 * j : Nat) : Int) < (xs.length : Int) * 8) = true := by simp; omega
      go_wp2
      go_loop [5, 6] (fun n i => ∃ k : Nat, k ≤ 6 ∧ i = .int .i64 k ∧ n = .int .i64 (bitsTo xs (6 * j) k)) (fun _ i => 6 - (intOf i).toNat)
      case atStart => exact ⟨0, by omega, rfl, rfl⟩
      case round =>
        obtain ⟨k, hk, rfl, rfl⟩ := hrel
        by_cases hk6 : k < 6
        · have hbd := bitsTo_bd xs (6 * j) k hk
          have hbi := bitI_bd xs (6 * j + k)
          have HS : Hid (bitsTo xs (6 * j) (k + 1) = bitsTo xs (6 * j) k * 2 + bitI xs (6 * j + k)) := rfl
          generalize bitsTo xs (6 * j) k = n at *
          go_wp2_with fail
          refine (bit_any _ xs (6 * j + k) _ hs hb hm (by omega)).mono ?_
          rintro e w' ⟨rfl, rfl⟩
          generalize bitI xs (6 * j + k) = t at *
          go_wp2
          go_round
          case rel => exact ⟨k + 1, by omega, by go_num, by rw [unhide HS]⟩
          case measure => simp [intOf]; omega
        · obtain rfl : k = 6 := by omega
          have hbd := bitsTo_bd xs (6 * j) 6 (Nat.le_refl _)
          have hll := lets_length xs j
          have HS := hide (lets_succ xs j)
          obtain ⟨n, hn⟩ := Int.eq_ofNat_of_zero_le hbd.1
          have hn64 : n < 64 := by omega
          rw [hn] at HS
          rw [hn]
          clear hbd hn
          go_wp2
          refine ⟨⟨j + 1, by omega, by go_num, ?_⟩, by simp [intOf]; omega⟩
          rw [abc_cut n hn64, str_append, unhide HS]
    · have d1 : decide (((6 * j : Nat) : Int) < (xs.length : Int) * 8) = false := by simp; omega
      have HL := hide (lets_enc xs hb j hj (by omega))
      have hll := lets_length xs j
      generalize lets xs j = l at *
      go_wp2
      go_loop [3] (fun s => ∃ p, p ≤ (4 - j % 4) % 4 ∧ s = .string ⟨(l ++ List.replicate p 61).toArray⟩) (fun s => j + 4 - lenT s)
      case atStart => exact ⟨0, by omega, by simp⟩
      case round =>
        obtain ⟨p, hp, rfl⟩ := hrel
        have hl2 : (l ++ List.replicate p (61 : UInt8)).length = j + p := by simp [hll]
        by_cases hp4 : p < (4 - j % 4) % 4
        · have d2 : (((j : Int) + p) % 4 != 0) = true := by simp; omega
          go_wp2
          have e61 : (⟨(l ++ List.replicate p 61).toArray⟩ : ByteArray) ++ ⟨#[61]⟩ = ⟨(l ++ List.replicate (p + 1) 61).toArray⟩ := by
            rw [show (⟨#[61]⟩ : ByteArray) = ⟨[61].toArray⟩ from rfl, str_append, List.append_assoc, ← List.replicate_succ']
          rw [e61]
          refine ⟨⟨p + 1, by omega, rfl⟩, ?_⟩
          rw [lenT_of, lenT_of, hl2]
          simp [hll]; omega
        · have d2 : (((j : Int) + p) % 4 != 0) = false := by simp; omega
          have HP : Hid (p = (4 - j % 4) % 4) := by unfold Hid; omega
          go_wp2
          go_ret
          refine ⟨?_, rfl⟩
          rw [← unhide HL, ← unhide HP]
          rfl
end Go.Proofs.Ytaamokcoccjjmaa
