/-
  Mathematics of powers and of inverses: a number's bits, the power bit by bit, and what each step of the division in turn keeps. No conditions.
-/
import Derived.Test.YtbefchlgonlfiaaNatM
namespace Go.Proofs.Ytbefchlgonlfiaa
set_option linter.unusedVariables false

/-- One step of a power, from the highest bit down. -/
theorem pow_step {A N c k M : Nat} (hk : k < c) :
    (A ^ (N / 2 ^ (c - k)) % M) * (A ^ (N / 2 ^ (c - k)) % M) % M * (if N / 2 ^ (c - 1 - k) % 2 = 1 then A else 1) % M = A ^ (N / 2 ^ (c - (k + 1))) % M := by
  obtain ⟨j, hj⟩ : ∃ j, c - 1 - k = j := ⟨_, rfl⟩
  have e1 : c - k = j + 1 := by omega
  have e2 : c - (k + 1) = j := by omega
  rw [hj, e1, e2, Nat.pow_succ, ← Nat.div_div_eq_div_mul]
  generalize N / 2 ^ j = E
  have h := Nat.div_add_mod E 2
  rw [← Nat.mul_mod, ← Nat.pow_add, Nat.mul_mod, Nat.mod_mod, ← Nat.mul_mod]
  split
  · rename_i h1
    rw [← Nat.pow_succ]
    congr 2
    omega
  · rw [Nat.mul_one]
    congr 2
    omega
theorem bl_shift {N : Nat} : N / 2 ^ bl N = 0 := Nat.div_eq_of_lt ((bl_le N _).1 (Nat.le_refl _))
/-- A number's bit by its words. -/
theorem bit_val {xs : List Nat} (hl : Lo W32 xs) (i : Nat) : xs.getD (i / 32) 0 / 2 ^ (i % 32) % 2 = val W32 xs / 2 ^ i % 2 := by
  have hs := val_split (B := W32) xs (i / 32)
  have ht := val_take_lt (B := W32) (by decide) hl (i / 32)
  have e : 2 ^ i = W32 ^ (i / 32) * 2 ^ (i % 32) := by rw [pow32, ← Nat.pow_add]; congr 1; omega
  rw [e, ← Nat.div_div_eq_div_mul, hs, Nat.add_mul_div_left _ _ (Nat.pow_pos (by decide)), Nat.div_eq_of_lt ht, Nat.zero_add]
  have hr : i % 32 < 32 := Nat.mod_lt _ (by decide)
  generalize i % 32 = r at *
  generalize val W32 (xs.drop (i / 32 + 1)) = T
  generalize xs.getD (i / 32) 0 = x
  obtain ⟨s, hs⟩ : ∃ s, 31 - r = s := ⟨_, rfl⟩
  have e2 : (W32 : Nat) = 2 ^ r * (2 ^ s * 2) := by
    rw [← Nat.pow_succ, ← Nat.pow_add, show r + (s + 1) = 32 by omega]
  rw [e2, Nat.mul_assoc, Nat.add_mul_div_left _ _ (Nat.pow_pos (by decide)), Nat.mul_comm (2 ^ s) 2, Nat.mul_assoc, Nat.add_mul_mod_self_left]

/-- The sign of a factor. -/
def sg (b : Bool) : Int := if b then -1 else 1
theorem sg_not (b : Bool) : sg (!b) = - sg b := by cases b <;> rfl
/-- What each step of the division in turn keeps. -/
structure Fac (M A a d t n : Nat) (b : Bool) : Prop where
  pos : 0 < d
  sum : t * a + n * d = M
  top : t ≤ M
  gcd : Nat.gcd a d = Nat.gcd A M
  one : ∃ c : Int, (d : Int) - sg b * t * A = M * c
  two : ∃ c : Int, (a : Int) + sg b * n * A = M * c
theorem Fac.start {M A : Nat} (h : 0 < M) : Fac M A A M 0 1 true :=
  ⟨h, by omega, by omega, rfl, ⟨1, by simp⟩, ⟨0, by simp [sg]; omega⟩⟩
theorem Fac.nTop {M A a d t n : Nat} {b : Bool} (h : Fac M A a d t n b) : n ≤ M := by
  have h1 := h.sum; have h2 := h.pos
  have : n * 1 ≤ n * d := Nat.mul_le_mul_left _ h2
  omega
theorem Fac.dTop {M A a d t n : Nat} {b : Bool} (h : Fac M A a d t n b) (hn : 0 < n) : d ≤ M := by
  have h1 := h.sum
  have : 1 * d ≤ n * d := Nat.mul_le_mul_right _ hn
  omega
theorem Fac.step {M A a d t n : Nat} {b : Bool} (h : Fac M A a d t n b) (ha : a ≠ 0) : Fac M A (d % a) a n (t + d / a * n) (!b) := by
  have hd := Nat.div_add_mod d a
  obtain ⟨c1, h1⟩ := h.one
  obtain ⟨c2, h2⟩ := h.two
  have hs := h.sum
  refine ⟨Nat.pos_of_ne_zero ha, ?_, h.nTop, ?_, ⟨c2, ?_⟩, ⟨c1 - (d / a : Nat) * c2, ?_⟩⟩
  · generalize d / a = q at *
    generalize d % a = r at *
    subst hd
    grind
  · rw [← Nat.gcd_rec]; exact h.gcd
  · rw [sg_not]; grind
  · rw [sg_not]
    have e : ((d % a : Nat) : Int) = d - a * (d / a : Nat) := by
      have : ((a * (d / a) + d % a : Nat) : Int) = (d : Int) := by rw [hd]
      rw [Int.natCast_add, Int.natCast_mul] at this
      omega
    rw [e, Int.natCast_add, Int.natCast_mul]
    generalize ((d / a : Nat) : Int) = q
    grind
theorem Fac.stop {M A d t n : Nat} {b : Bool} (h : Fac M A 0 d t n b) : d = Nat.gcd A M := by
  have := h.gcd
  rwa [Nat.gcd_zero_left] at this
theorem mod_of_int {M X Y : Nat} {c : Int} (h : (X : Int) - Y = M * c) : X % M = Y % M := by
  have e : (X : Int) = Y + M * c := by omega
  have h2 : ((X % M : Nat) : Int) = ((Y % M : Nat) : Int) := by
    rw [Int.natCast_emod, Int.natCast_emod, e, Int.add_mul_emod_self_left]
  exact_mod_cast h2
/-- The inverse, of a factor above nought, and of one below it. -/
theorem inverse_up {M A T : Nat} {c : Int} (h : (1 : Int) - sg false * T * (A % M : Nat) = M * c) : A * (T % M) % M = 1 % M := by
  rw [Nat.mul_mod, Nat.mod_mod, Nat.mul_comm, Nat.mod_mul_mod]
  symm
  refine mod_of_int (c := c) ?_
  rw [← h, Int.natCast_mul]; simp [sg]
theorem inverse_down {M A T : Nat} {c : Int} (hT : T ≤ M) (h : (1 : Int) - sg true * T * (A % M : Nat) = M * c) : A * ((M - T) % M) % M = 1 % M := by
  rw [Nat.mul_mod, Nat.mod_mod, Nat.mul_comm, Nat.mod_mul_mod]
  symm
  refine mod_of_int (c := c - (A % M : Nat)) ?_
  rw [Int.natCast_mul, Int.natCast_sub hT]
  simp only [sg, if_true] at h
  generalize ((A % M : Nat) : Int) = a at *
  grind
theorem gcd_mod (A M : Nat) : Nat.gcd (A % M) M = Nat.gcd A M := by rw [← Nat.gcd_rec, Nat.gcd_comm]
end Go.Proofs.Ytbefchlgonlfiaa
