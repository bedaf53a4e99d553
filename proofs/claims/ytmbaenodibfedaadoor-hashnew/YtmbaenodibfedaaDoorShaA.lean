/-
  Contracts of the first hash's small functions (rotations, f and k of a step), the program's and the document's, over this seat's translation. Conditions: each as it says.
-/
import Derived.Test.YtmbaenodibfedaaDoorShaM
import Derived.Test.YtmbaenodibfedaaDoorKit6
import Derived.Test.YtmbaenodibfedaaDoorRows
namespace Go.Proofs.YtmbaenodibfedaaDoor.S1
open Go.RowKit
set_option linter.unusedVariables false

theorem rotl_any (x k : Nat) (hx : x < 4294967296) (hk : k < 32) (w : World) :
    Calls Tryd.prog 66 #[.int .u32 (x : Int), .int .i64 (k : Int)] w fun e w' => e = .returned (.int .u32 (rot k x : Nat)) ∧ w = w' := by
  have ha : bits .and .u64 (k : Int) 31 = (k : Int) := by
    have := u64_and_nat k 31 (by omega) (by decide)
    rw [show ((31 : Nat) : Int) = 31 from rfl] at this
    rw [this, Nat.and_two_pow_sub_one_of_lt_two_pow (n := 5) hk]
  have ho := rot_eq x k hx
  go_enter Tryd.func66, Tryd.ntmps66
  go_wp2
  go_ret
  exact ⟨rfl, rfl⟩
theorem turned_any (x k : Nat) (hx : x < 4294967296) (hk : k < 32) (w : World) :
    Calls Tryd.prog 58 #[.int .u32 (x : Int), .int .u64 (k : Int)] w fun e w' => e = .returned (.int .u32 (rot k x : Nat)) ∧ w = w' := by
  have ho := rot_eq x k hx
  go_enter Tryd.func58, Tryd.ntmps58
  go_wp2
  go_ret
  exact ⟨rfl, rfl⟩
theorem mixed_any (t b c d : Nat) (hb : b < 4294967296) (hc : c < 4294967296) (hd : d < 4294967296) (ht : t < 80) (w : World) :
    Calls Tryd.prog 67 #[.int .i64 (t : Int), .int .u32 (b : Int), .int .u32 (c : Int), .int .u32 (d : Int)] w fun e w' => e = .returned (.int .u32 ((F1 t b c d + K1 t) % 4294967296 : Nat)) ∧ w = w' := by
  have o1 := u32_and_nat b c hb hc
  have o2 := not32 b hb
  have o3 := u32_and_nat (b ^^^ 4294967295) d (xor_lt32 hb (by decide)) hd
  have o4 := u32_or_nat (b &&& c) ((b ^^^ 4294967295) &&& d) (and_lt32 hb) (and_lt32 (xor_lt32 hb (by decide)))
  have o5 := u32_xor_nat b c hb hc
  have o6 := u32_xor_nat (b ^^^ c) d (xor_lt32 hb hc) hd
  have o7 := u32_and_nat b d hb hd
  have o8 := u32_and_nat c d hc hd
  have o9 := u32_or_nat (b &&& c) (b &&& d) (and_lt32 hb) (and_lt32 hb)
  have o10 := u32_or_nat ((b &&& c) ||| (b &&& d)) (c &&& d) (or_lt32 (and_lt32 hb) (and_lt32 hb)) (and_lt32 hc)
  by_cases h1 : t < 20
  · have HF : Away (F1 t b c d = (b &&& c) ||| ((b ^^^ 4294967295) &&& d) ∧ K1 t = 1518500249) := ⟨by simp [F1, K1, h1]⟩
    clear o5 o6 o7 o8 o9 o10
    go_enter Tryd.func67, Tryd.ntmps67
    go_wp2
    go_ret
    exact ⟨by rw [HF.out.1, HF.out.2]; rfl, rfl⟩
  · by_cases h2 : t < 40
    · have HF : Away (F1 t b c d = b ^^^ c ^^^ d ∧ K1 t = 1859775393) := ⟨by simp [F1, K1, h1, h2]⟩
      clear o1 o2 o3 o4 o7 o8 o9 o10
      go_enter Tryd.func67, Tryd.ntmps67
      go_wp2
      go_ret
      exact ⟨by rw [HF.out.1, HF.out.2]; rfl, rfl⟩
    · by_cases h3 : t < 60
      · have HF : Away (F1 t b c d = (b &&& c) ||| (b &&& d) ||| (c &&& d) ∧ K1 t = 2400959708) := ⟨by simp [F1, K1, h1, h2, h3]⟩
        clear o2 o3 o4 o5 o6
        go_enter Tryd.func67, Tryd.ntmps67
        go_wp2
        go_ret
        exact ⟨by rw [HF.out.1, HF.out.2]; rfl, rfl⟩
      · have HF : Away (F1 t b c d = b ^^^ c ^^^ d ∧ K1 t = 3395469782) := ⟨by simp [F1, K1, h1, h2, h3]⟩
        clear o1 o2 o3 o4 o7 o8 o9 o10
        go_enter Tryd.func67, Tryd.ntmps67
        go_wp2
        go_ret
        exact ⟨by rw [HF.out.1, HF.out.2]; rfl, rfl⟩

theorem step_any (t b c d : Nat) (hb : b < 4294967296) (hc : c < 4294967296) (hd : d < 4294967296) (ht : t < 80) (w : World) :
    Calls Tryd.prog 59 #[.int .i64 (t : Int), .int .u32 (b : Int), .int .u32 (c : Int), .int .u32 (d : Int)] w fun e w' => e = .returned (.tuple #[.int .u32 (F1 t b c d : Nat), .int .u32 (K1 t : Nat)]) ∧ w = w' := by
  have o1 := u32_and_nat b c hb hc
  have o2 : bits .xor .u32 (b : Int) 4294967295 = ((b ^^^ 4294967295 : Nat) : Int) := u32_xor_nat b 4294967295 hb (by decide)
  have o3 := u32_and_nat (b ^^^ 4294967295) d (xor_lt32 hb (by decide)) hd
  have o4 := u32_or_nat (b &&& c) ((b ^^^ 4294967295) &&& d) (and_lt32 hb) (and_lt32 (xor_lt32 hb (by decide)))
  have o5 := u32_xor_nat b c hb hc
  have o6 := u32_xor_nat (b ^^^ c) d (xor_lt32 hb hc) hd
  have o7 := u32_and_nat b d hb hd
  have o8 := u32_and_nat c d hc hd
  have o9 := u32_or_nat (b &&& c) (b &&& d) (and_lt32 hb) (and_lt32 hb)
  have o10 := u32_or_nat ((b &&& c) ||| (b &&& d)) (c &&& d) (or_lt32 (and_lt32 hb) (and_lt32 hb)) (and_lt32 hc)
  by_cases h1 : t < 20
  · have HF : Away (F1 t b c d = (b &&& c) ||| ((b ^^^ 4294967295) &&& d) ∧ K1 t = 1518500249) := ⟨by simp [F1, K1, h1]⟩
    clear o5 o6 o7 o8 o9 o10
    go_enter Tryd.func59, Tryd.ntmps59
    go_wp2
    go_ret2
    exact ⟨by rw [HF.out.1, HF.out.2]; rfl, rfl⟩
  · by_cases h2 : t < 40
    · have HF : Away (F1 t b c d = b ^^^ c ^^^ d ∧ K1 t = 1859775393) := ⟨by simp [F1, K1, h1, h2]⟩
      clear o1 o2 o3 o4 o7 o8 o9 o10
      go_enter Tryd.func59, Tryd.ntmps59
      go_wp2
      go_ret2
      exact ⟨by rw [HF.out.1, HF.out.2]; rfl, rfl⟩
    · by_cases h3 : t < 60
      · have HF : Away (F1 t b c d = (b &&& c) ||| (b &&& d) ||| (c &&& d) ∧ K1 t = 2400959708) := ⟨by simp [F1, K1, h1, h2, h3]⟩
        clear o2 o3 o4 o5 o6
        go_enter Tryd.func59, Tryd.ntmps59
        go_wp2
        go_ret2
        exact ⟨by rw [HF.out.1, HF.out.2]; rfl, rfl⟩
      · have HF : Away (F1 t b c d = b ^^^ c ^^^ d ∧ K1 t = 3395469782) := ⟨by simp [F1, K1, h1, h2, h3]⟩
        clear o1 o2 o3 o4 o7 o8 o9 o10
        go_enter Tryd.func59, Tryd.ntmps59
        go_wp2
        go_ret2
        exact ⟨by rw [HF.out.1, HF.out.2]; rfl, rfl⟩
end Go.Proofs.YtmbaenodibfedaaDoor.S1
