/-
  More mathematics of numbers in digits: one digit more, added, taken away. Over no program.
-/
import Derived.Test.YtdpahahfcdldcaaDoorNatM
namespace Go.Proofs.YtdpahahfcdldcaaDoor
set_option linter.unusedVariables false
section
variable {B : Nat}
theorem val_take_set {xs : List Nat} {k : Nat} (hk : k < xs.length) (z : Nat) : val B ((xs.set k z).take (k + 1)) = val B (xs.take k) + B ^ k * z := by
  rw [val_take_succ, List.take_set_of_le (Nat.le_refl _)]
  simp [List.getD, hk]
theorem drop_set_succ (xs : List Nat) (k z : Nat) : (xs.set k z).drop (k + 1) = xs.drop (k + 1) := List.drop_set_of_lt (by omega)
theorem drop_succ_of {xs ys : List Nat} {k : Nat} (h : xs.drop k = ys.drop k) : xs.drop (k + 1) = ys.drop (k + 1) := by
  have := congrArg (List.drop 1) h
  simpa [List.drop_drop] using this
theorem getD_of_drop {xs ys : List Nat} {k : Nat} (h : xs.drop k = ys.drop k) : xs.getD k 0 = ys.getD k 0 := by
  have := congrArg (fun l => l.getD 0 0) h
  simpa only [getD_drop, Nat.add_zero] using this
theorem add_step (P A X M y x t c s : Nat) (h : A + P * c = M + y * X) (hs : s = c + (x * y + t)) : A + P * (s % B) + P * B * (s / B) = (M + P * t) + y * (X + P * x) := by
  have h1 := Nat.mod_add_div s B
  generalize s % B = r at *
  generalize s / B = q at *
  grind
theorem carry_step (P A M Y t c s : Nat) (h : A + P * c = M + Y) (hs : s = c + t) : A + P * (s % B) + P * B * (s / B) = (M + P * t) + Y := by
  have h1 := Nat.mod_add_div s B
  generalize s % B = r at *
  generalize s / B = q at *
  grind
/-- What is taken away: 'A' of the words so far, with what is borrowed. -/
theorem take_step (P A X M y x f f' c c' n : Nat) (h : A + y * X = M + P * c) (hn : n = c + x * y) (hf : f' + n = f + B * c') : (A + P * f') + y * (X + P * x) = (M + P * f) + P * B * c' := by
  grind
theorem borrow_step (P A M Y f f' c c' : Nat) (h : A + Y = M + P * c) (hf : f' + c = f + B * c') : (A + P * f') + Y = (M + P * f) + P * B * c' := by
  grind
theorem val_whole {xs ys : List Nat} {k : Nat} (h : xs.drop k = ys.drop k) (hk : k ≤ xs.length) (hl : xs.length = ys.length) : val B xs + val B (ys.take k) = val B ys + val B (xs.take k) := by
  rw [val_take_drop xs k hk, val_take_drop ys k (by omega), h]; omega
theorem mid_step {pre mid mid' : List Nat} {k r c S : Nat} (hp : pre.length = k) (h : val B mid' + B ^ r * c = val B mid + S) : val B (pre ++ mid') + B ^ (k + r) * c = val B (pre ++ mid) + B ^ k * S := by
  rw [val_append, val_append, hp, Nat.pow_add]
  generalize B ^ k = P at *
  generalize B ^ r = R at *
  grind
theorem no_carry {P V S c : Nat} (h : V + P * c = S) (hs : S < P) : V = S := by
  have : c = 0 := by
    apply Nat.eq_zero_of_not_pos
    intro hc
    have h3 : P * 1 ≤ P * c := Nat.mul_le_mul_left _ hc
    omega
  subst this; omega
theorem sum_fits (hB : 1 < B) {X Y m : Nat} (hx : X < B ^ m) (hy : Y < B ^ m) : X + Y < B ^ (m + 1) := by
  rw [Nat.pow_succ]
  have : B ^ m * 2 ≤ B ^ m * B := Nat.mul_le_mul_left _ hB
  omega
theorem mul_fits {X Y m n : Nat} (hx : X < B ^ m) (hy : Y < B ^ n) : X * Y < B ^ (m + n) := by
  rw [Nat.pow_add]
  exact Nat.mul_lt_mul'' hx hy
/-- Nothing borrowed: it is the difference; else it was more. -/
theorem no_borrow {P V S Y c : Nat} (h : V + Y = S + P * c) (hv : V < P) (hy : Y ≤ S) : c = 0 ∧ V = S - Y := by
  have : c = 0 := by
    apply Nat.eq_zero_of_not_pos
    intro hc
    have h3 : P * 1 ≤ P * c := Nat.mul_le_mul_left _ hc
    omega
  subst this; omega
theorem Is.val_lt {n m : Nat} {zs : List Nat} (hB : 1 < B) (h : Is B n zs) (hm : zs.length ≤ m) : n < B ^ m := (h.len hB m).1 hm
end
end Go.Proofs.YtdpahahfcdldcaaDoor
