/-
  The mathematics of the document's primes and roots, over natural numbers. Over no program.
-/
import Derived.Test.YtniclmghkbdkbaaDoorSh3M
namespace Go.Proofs.YtniclmghkbdkbaaDoor.S3
set_option linter.unusedVariables false

/-- The primes among the first k candidates from 2 on. -/
def prs : Nat → List Nat
  | 0 => []
  | k + 1 => if (prs k).all (fun q => (k + 2) % q != 0) then prs k ++ [k + 2] else prs k
/-- The first 80 primes. -/
def PL : List Nat := [2, 3, 5, 7, 11, 13, 17, 19, 23, 29, 31, 37, 41, 43, 47, 53, 59, 61, 67, 71, 73, 79, 83, 89, 97, 101, 103, 107, 109, 113, 127, 131, 137, 139, 149, 151, 157, 163, 167, 173, 179, 181, 191, 193, 197, 199, 211, 223, 227, 229, 233, 239, 241, 251, 257, 263, 269, 271, 277, 281, 283, 293, 307, 311, 313, 317, 331, 337, 347, 349, 353, 359, 367, 373, 379, 383, 389, 397, 401, 409]
theorem prs_all : prs 408 = PL := by decide +kernel
theorem prs_407 : (prs 407).length = 79 := by decide +kernel
theorem PL_length : PL.length = 80 := rfl
theorem prs_mono (k : Nat) : (prs k).length ≤ (prs (k + 1)).length := by
  rw [prs]
  split
  · simp
  · exact Nat.le_refl _
theorem prs_len : ∀ d k, k + d = 407 → (prs k).length ≤ 79 := by
  intro d
  induction d with
  | zero => intro k hk; obtain rfl : k = 407 := by omega
            rw [prs_407]; exact Nat.le_refl _
  | succ d ih => intro k hk; exact Nat.le_trans (prs_mono k) (ih (k + 1) (by omega))
theorem prs_range (k : Nat) : ∀ q ∈ prs k, 2 ≤ q ∧ q < k + 2 := by
  induction k with
  | zero => intro q hq; cases hq
  | succ k ih =>
    intro q hq
    rw [prs] at hq
    split at hq
    · rcases List.mem_append.1 hq with h | h
      · have := ih q h; omega
      · rw [List.mem_singleton] at h; omega
    · have := ih q hq; omega

/-- The power that a root is of. -/
def pw (c : Bool) (y : Nat) : Nat := if c then y * y * y else y * y
/-- One step of the search. -/
def rtS (c : Bool) (M n x : Nat) : Nat := if pw c (x + 2 ^ (68 - n)) ≤ M then x + 2 ^ (68 - n) else x
/-- The search behind n steps. -/
def rt (c : Bool) (M : Nat) : Nat → Nat
  | 0 => 0
  | n + 1 => rtS c M n (rt c M n)
def rtM (c : Bool) (p : Nat) : Nat := p * 2 ^ (if c then 192 else 128)
/-- A prime's root. -/
def rtP (c : Bool) (p : Nat) : Nat := rt c (rtM c p) 69
theorem rt_le (c : Bool) (M n : Nat) (h : n ≤ 69) : rt c M n + 2 ^ (69 - n) ≤ 2 ^ 69 := by
  induction n with
  | zero => simp [rt]
  | succ n ih =>
    have ih := ih (by omega)
    have e : 2 ^ (69 - n) = 2 * 2 ^ (68 - n) := by rw [show 69 - n = (68 - n) + 1 by omega, Nat.pow_succ, Nat.mul_comm]
    rw [show 69 - (n + 1) = 68 - n by omega, rt, rtS]
    rw [e] at ih
    split <;> omega
theorem cubes_right : (PL.map fun p => rtP true p % 18446744073709551616) = K3L := by decide +kernel
theorem cubes_great : (PL.all fun p => decide (281474976710656 ≤ rtP true p)) = true := by decide +kernel
theorem squares_great : ((PL.take 16).all fun p => decide (281474976710656 ≤ rtP false p)) = true := by decide +kernel
theorem squares_right : ((PL.take 8).map fun p => rtP false p % 18446744073709551616) = startL.list := by decide +kernel
theorem squares_right2 : (((PL.drop 8).take 8).map fun p => rtP false p % 18446744073709551616) = startS.list := by decide +kernel
end Go.Proofs.YtniclmghkbdkbaaDoor.S3
