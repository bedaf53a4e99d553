/-
  Contracts of the small functions of package radix and of the document's answer, over this seat's translation. Conditions: each as it says.
-/
import Derived.Test.YtaamokcoccjjmaaRows
import Derived.Test.YtaamokcoccjjmaaKit
import Derived.Test.YtaamokcoccjjmaaRadM
import Derived.Test.YtaamokcoccjjmaaShelf
import Derived.Laws.BitsAllLaws
namespace Go.Proofs.Ytaamokcoccjjmaa
open Go.RowKit
set_option linter.unusedVariables false

theorem ret_int {k : IntKind} {a b : Int} (h : a = b) : Ending.returned (.int k a) = .returned (.int k b) := by rw [h]
/-- The constant's letter. -/
theorem abc_get (k : Nat) (h : k < (⟨#[65, 66, 67, 68, 69, 70, 71, 72, 73, 74, 75, 76, 77, 78, 79, 80, 81, 82, 83, 84, 85, 86, 87, 88, 89, 90, 97, 98, 99, 100, 101, 102, 103, 104, 105, 106, 107, 108, 109, 110, 111, 112, 113, 114, 115, 116, 117, 118, 119, 120, 121, 122, 48, 49, 50, 51, 52, 53, 54, 55, 56, 57, 43, 47]⟩ : ByteArray).size) : (⟨#[65, 66, 67, 68, 69, 70, 71, 72, 73, 74, 75, 76, 77, 78, 79, 80, 81, 82, 83, 84, 85, 86, 87, 88, 89, 90, 97, 98, 99, 100, 101, 102, 103, 104, 105, 106, 107, 108, 109, 110, 111, 112, 113, 114, 115, 116, 117, 118, 119, 120, 121, 122, 48, 49, 50, 51, 52, 53, 54, 55, 56, 57, 43, 47]⟩ : ByteArray)[k] = ltr (k : Int) := by
  have h' : k < ABC.length := h
  have e : ltr (k : Int) = ABC[k] := by
    rw [ltr, Int.toNat_natCast, List.getD, List.getElem?_eq_getElem h']; rfl
  rw [e]; rfl

theorem letter_ok (k : Nat) (w : World) (h : k < 64) :
    Calls Try.prog 13 #[.int .i64 (k : Int)] w fun e w' => e = .returned (.tuple #[.int .u8 (ltr k).toNat, .int .i64 0]) ∧ w = w' := by
  have d1 : decide ((k : Int) < 0) = false := by simp
  have d2 : decide (64 ≤ (k : Int)) = false := by simp; omega
  go_enter Try.func13, Try.ntmps13
  go_wp2
  go_ret2
  exact ⟨by rw [abc_get]; rfl, rfl⟩
theorem letter_bad (n : Int) (w : World) (h : n < 0 ∨ 63 < n) :
    Calls Try.prog 13 #[.int .i64 n] w fun e w' => e = .returned (.tuple #[.int .u8 0, .int .i64 1]) ∧ w = w' := by
  rcases h with h | h
  · have d1 : decide (n < 0) = true := by simp; omega
    go_enter Try.func13, Try.ntmps13
    go_wp2
    go_ret2
    exact ⟨rfl, rfl⟩
  · have d1 : decide (n < 0) = false := by simp; omega
    have d2 : decide (64 ≤ n) = true := by simp; omega
    go_enter Try.func13, Try.ntmps13
    go_wp2
    go_ret2
    exact ⟨rfl, rfl⟩
theorem refletter_ok (k : Nat) (w : World) (h : k < 64) :
    Calls Try.prog 14 #[.int .i64 (k : Int)] w fun e w' => e = .returned (.tuple #[.int .u8 (ltr k).toNat, .int .i64 0]) ∧ w = w' := by
  have d1 : decide ((k : Int) < 0) = false := by simp
  have d2 : decide (63 < (k : Int)) = false := by simp; omega
  go_enter Try.func14, Try.ntmps14
  go_wp2
  go_ret2
  exact ⟨by rw [abc_get]; rfl, rfl⟩
theorem refletter_bad (n : Int) (w : World) (h : n < 0 ∨ 63 < n) :
    Calls Try.prog 14 #[.int .i64 n] w fun e w' => e = .returned (.tuple #[.int .u8 0, .int .i64 1]) ∧ w = w' := by
  rcases h with h | h
  · have d1 : decide (n < 0) = true := by simp; omega
    go_enter Try.func14, Try.ntmps14
    go_wp2
    go_ret2
    exact ⟨rfl, rfl⟩
  · have d1 : decide (n < 0) = false := by simp; omega
    have d2 : decide (63 < n) = true := by simp; omega
    go_enter Try.func14, Try.ntmps14
    go_wp2
    go_ret2
    exact ⟨rfl, rfl⟩
theorem value_any (c : UInt8) (w : World) :
    Calls Try.prog 15 #[.int .u8 (c.toNat : Int)] w fun e w' => e = .returned (.int .i64 (val c)) ∧ w = w' := by
  go_enter Try.func15, Try.ntmps15
  go_wp2_with (go_at_call 24; refine (Try.strings_IndexByte _ _ _).mono ?_; rintro e w' ⟨rfl, rfl⟩)
  go_ret
  refine ⟨ret_int ?_, rfl⟩
  rfl

/-- A letter ahead of which it does not stand is its number. -/
theorem val_first (c : UInt8) (k : Nat) (hk : k < 64) (h : ∀ j < k, ltr (j : Int) ≠ c) (e : ltr (k : Int) = c) : val c = k := by
  rw [← e]; exact val_ltr (by omega) (by omega)
theorem val_none (c : UInt8) (h : ∀ j < 64, ltr ((j : Nat) : Int) ≠ c) : val c = -1 := by
  have h1 := val_ge c; have h2 := val_lt c
  rcases Int.lt_or_le (val c) 0 with h3 | h3
  · omega
  · exact absurd (by rw [Int.toNat_of_nonneg h3]; exact ltr_val h3) (h (val c).toNat (by omega))
theorem refvalue_any (c : UInt8) (w : World) :
    Calls Try.prog 16 #[.int .u8 (c.toNat : Int)] w fun e w' => e = .returned (.int .i64 (val c)) ∧ w = w' := by
  go_enter Try.func16, Try.ntmps16
  go_wp2
  go_loop [3] (fun i => ∃ k : Nat, k ≤ 64 ∧ i = .int .i64 k ∧ ∀ j < k, ltr (j : Int) ≠ c) (fun i => 64 - (intOf i).toNat)
  case atStart => exact ⟨0, Nat.zero_le _, rfl, fun j h => by omega⟩
  case round =>
    obtain ⟨k, hk, rfl, hne⟩ := hrel
    by_cases hlt : k < 64
    · by_cases he : ltr (k : Int) = c
      · have HV := hide (val_first c k hlt hne he)
        have g := abc_get k hlt
        have d : (((ltr (k : Int)).toNat : Int) == (c.toNat : Int)) = true := by rw [he]; simp
        clear hne he
        go_wp2
        go_ret
        exact ⟨ret_int (unhide HV).symm, rfl⟩
      · have d : (((ltr (k : Int)).toNat : Int) == (c.toNat : Int)) = false := by
          simp; intro h; exact he (UInt8.toNat_inj.1 (by omega))
        have HN := hide hne
        have g := abc_get k hlt
        clear hne
        go_wp2
        go_round
        case rel => 
          refine ⟨k + 1, by omega, by go_num, fun j hj => ?_⟩
          by_cases hjk : j < k
          · exact unhide HN j hjk
          · obtain rfl : j = k := by omega
            exact he
        case measure => simp [intOf]; omega
    · obtain rfl : k = 64 := by omega
      have HV := hide (val_none c hne)
      clear hne
      go_wp2
      go_ret
      exact ⟨ret_int (unhide HV).symm, rfl⟩

theorem trim1_le (s : List UInt8) : (trim1 s).length ≤ s.length := by
  rcases trim1_cases s with h | h
  · rw [h]; exact Nat.le_refl _
  · have := congrArg List.length h
    simp at this; omega
theorem pads_any (s : ByteArray) (w : World) (hs : s.size ≤ 9223372036854775807) :
    Calls Try.prog 22 #[.string s] w fun e w' => e = .returned (.string ⟨(trim2 s.data.toList).toArray⟩) ∧ w = w' := by
  go_enter Try.func22, Try.ntmps22
  go_wp2_with fail
  refine (Try.strings_TrimSuffix _ _ _ hs).mono ?_
  rintro e w' ⟨rfl, rfl⟩
  go_wp2_with fail
  refine (Try.strings_TrimSuffix _ _ _ ?_).mono ?_
  · have := trim1_le s.data.toList
    have e2 : s.data.toList.length = s.data.size := Array.length_toList
    have e : s.size = s.data.size := rfl
    show (trim1 s.data.toList).toArray.size ≤ _
    rw [List.size_toArray]
    omega
  rintro e w' ⟨rfl, rfl⟩
  go_wp2
  go_ret
  exact ⟨rfl, rfl⟩
end Go.Proofs.Ytaamokcoccjjmaa
