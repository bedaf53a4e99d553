/-
  The mathematics of the check sum, over natural numbers: a bit's step and a byte's step never make two sums one, and a sum goes on piece by piece. Over no program.
-/
import Derived.Test.YtdfaobpdifphoaaKit2
namespace Go.Proofs.Ytdfaobpdifphoaa
set_option linter.unusedVariables false

/-- One bit's step. -/
def stp (c : Nat) : Nat := if 2 * c < 16777216 then 2 * c else (2 * c) ^^^ 25578747
/-- k bits' steps. -/
def stps : Nat → Nat → Nat
  | 0, c => c
  | k + 1, c => stp (stps k c)
/-- A byte's step. -/
def bst (c x : Nat) : Nat := stps 8 (c ^^^ x * 65536)
/-- Bytes as natural numbers. -/
def nats (xs : List Int) : List Nat := xs.map Int.toNat
/-- The sum, gone on with. -/
def go (c : Nat) (xs : List Nat) : Nat := xs.foldl bst c

theorem stp_lt {c : Nat} (h : c < 16777216) : stp c < 16777216 := by
  unfold stp
  split
  · assumption
  · rename_i h2
    rw [show (16777216 : Nat) = 2 ^ 24 from rfl]
    refine Nat.lt_pow_two_of_testBit _ fun i hi => ?_
    rw [Nat.testBit_xor]
    by_cases h24 : i = 24
    · subst h24
      have e1 : (2 * c).testBit 24 = true := by
        rw [Nat.testBit_eq_decide_div_mod_eq]; simp; omega
      rw [e1]; decide
    · have hp : 2 ^ 25 ≤ 2 ^ i := Nat.pow_le_pow_right (by decide) (by omega)
      rw [Nat.testBit_lt_two_pow (Nat.lt_of_lt_of_le (by omega) hp), Nat.testBit_lt_two_pow (Nat.lt_of_lt_of_le (by omega) hp)]
      rfl
theorem xor_right {a b d : Nat} (h : a ^^^ d = b ^^^ d) : a = b := by
  have := congrArg (· ^^^ d) h
  simpa [Nat.xor_assoc] using this
theorem xor_left {a b d : Nat} (h : d ^^^ a = d ^^^ b) : a = b := by
  rw [Nat.xor_comm d a, Nat.xor_comm d b] at h; exact xor_right h
theorem odd_ne (a b : Nat) : 2 * a ≠ (2 * b) ^^^ 25578747 := by
  intro h
  have h1 := congrArg (Nat.testBit · 0) h
  rw [Nat.testBit_xor] at h1
  have e1 : (2 * a).testBit 0 = false := by rw [Nat.testBit_eq_decide_div_mod_eq]; simp
  have e2 : (2 * b).testBit 0 = false := by rw [Nat.testBit_eq_decide_div_mod_eq]; simp
  rw [e1, e2] at h1
  exact absurd h1 (by decide)
theorem stp_inj {a b : Nat} (h : stp a = stp b) : a = b := by
  unfold stp at h
  split at h <;> split at h
  · omega
  · exact absurd h (odd_ne a b)
  · exact absurd h.symm (odd_ne b a)
  · have := xor_right h; omega
theorem stps_lt {k c : Nat} (h : c < 16777216) : stps k c < 16777216 := by
  induction k with
  | zero => exact h
  | succ k ih => exact stp_lt ih
theorem stps_inj {k a b : Nat} (h : stps k a = stps k b) : a = b := by
  induction k with
  | zero => exact h
  | succ k ih => exact ih (stp_inj h)
theorem mix_lt {c x : Nat} (h : c < 16777216) (hx : x < 256) : c ^^^ x * 65536 < 16777216 :=
  Nat.xor_lt_two_pow (n := 24) h (by omega)
theorem bst_lt {c x : Nat} (h : c < 16777216) (hx : x < 256) : bst c x < 16777216 := stps_lt (mix_lt h hx)
theorem bst_inj {a b x : Nat} (h : bst a x = bst b x) : a = b := xor_right (stps_inj h)
theorem bst_ne {c x y : Nat} (h : bst c x = bst c y) : x = y := by
  have := xor_left (stps_inj h); omega
theorem go_nil (c : Nat) : go c [] = c := rfl
theorem go_cons (c x : Nat) (r : List Nat) : go c (x :: r) = go (bst c x) r := by simp only [go, List.foldl_cons]
theorem go_lt {c : Nat} {xs : List Nat} (h : c < 16777216) (hx : ∀ x ∈ xs, x < 256) : go c xs < 16777216 := by
  induction xs generalizing c with
  | nil => rw [go_nil]; exact h
  | cons x r ih => rw [go_cons]; exact ih (bst_lt h (hx x (by simp))) fun y hy => hx y (by simp [hy])
theorem go_inj {a b : Nat} {xs : List Nat} (h : go a xs = go b xs) : a = b := by
  induction xs generalizing a b with
  | nil => rw [go_nil, go_nil] at h; exact h
  | cons x r ih => rw [go_cons, go_cons] at h; exact bst_inj (ih h)
theorem go_append (c : Nat) (xs ys : List Nat) : go c (xs ++ ys) = go (go c xs) ys := by
  induction xs generalizing c with
  | nil => rw [go_nil, List.nil_append]
  | cons x r ih => rw [go_cons, List.cons_append, go_cons, ih]
theorem go_snoc (c : Nat) (xs : List Nat) (x : Nat) : go c (xs ++ [x]) = bst (go c xs) x := by rw [go_append, go_cons, go_nil]
/-- Another byte at one place: another sum. -/
theorem go_one {c : Nat} {xs : List Nat} {k y : Nat} (hk : k < xs.length) (hy : xs[k] ≠ y) : go c (xs.set k y) ≠ go c xs := by
  intro h
  have e : xs = xs.take k ++ (xs[k] :: xs.drop (k + 1)) := by simp
  have e2 : xs.set k y = xs.take k ++ (y :: xs.drop (k + 1)) := by rw [List.set_eq_take_append_cons_drop, if_pos hk]
  rw [e2] at h
  conv at h => rhs; rw [e]
  rw [go_append, go_append, go_cons, go_cons] at h
  exact hy (bst_ne (go_inj h)).symm
theorem nats_length (xs : List Int) : (nats xs).length = xs.length := by simp [nats]
theorem nats_lt {xs : List Int} (h : Byt xs) : ∀ x ∈ nats xs, x < 256 := by
  intro x hx
  obtain ⟨n, hn, rfl⟩ := List.mem_map.1 hx
  have := h n hn; omega
/-- The bytes' sums behind the first k. -/
def acc (c : Nat) (xs : List Int) (k : Nat) : Nat := go c ((nats xs).take k)
theorem acc_lt {c : Nat} {xs : List Int} (h : c < 16777216) (hb : Byt xs) (k : Nat) : acc c xs k < 16777216 := go_lt h fun x hx => nats_lt hb x (List.mem_of_mem_take hx)
theorem acc_succ {c : Nat} {xs : List Int} {k : Nat} (hk : k < xs.length) : acc c xs (k + 1) = bst (acc c xs k) (xs.getD k 0).toNat := by
  have hk' : k < (nats xs).length := by rw [nats_length]; exact hk
  unfold acc
  rw [take_snoc hk', go_snoc]
  simp [nats, List.getD, List.getElem?_eq_getElem hk]
theorem acc_all (c : Nat) (xs : List Int) : acc c xs xs.length = go c (nats xs) := by
  unfold acc; rw [List.take_of_length_le (by rw [nats_length]; exact Nat.le_refl _)]
theorem and_low (n : Nat) : n &&& 16777215 = n % 16777216 := Nat.and_two_pow_sub_one_eq_mod n 24
end Go.Proofs.Ytdfaobpdifphoaa
