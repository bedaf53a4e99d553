/-
  The document's numbers' contracts, over numbers below 2^256, over this seat's translation. Conditions: each as it says.
-/
import Derived.Test.YtniclmghkbdkbaaDoorR4H
namespace Go.Proofs.YtniclmghkbdkbaaDoor
open Go.RowKit
set_option linter.unusedVariables false

/-- 2^256. -/
def BN : Nat := W32 ^ 8
theorem RA.open {w : World} {v : Value} {N : Nat} (h : RA w v N) (hN : N < BN) : ∃ xs, SlV w v (C .u32 xs) ∧ Lo W32 xs ∧ val W32 xs = N ∧ xs.length ≤ 8 := by
  obtain ⟨zs, h1, h2⟩ := h
  exact ⟨zs, h2, h1.2.1, h1.1, (h1.len (by decide) 8).2 hN⟩
theorem lt_BN {N k : Nat} (h : N ≤ 2 ^ k) (hk : k < 256) : N < BN := Nat.lt_of_le_of_lt h (by
  rw [BN, show W32 = 2 ^ 32 from rfl, ← Nat.pow_mul]; exact Nat.pow_lt_pow_right (by decide) hk)
theorem radd_r {va vb : Value} {A B : Nat} (w : World) (ha : RA w va A) (hb : RA w vb B) (hA : A < BN) (hB : B < BN) :
    Calls Tryd.prog 33 #[va, vb] w fun e w' => ∃ v', e = .returned v' ∧ RA w' v' (A + B) ∧ Below w.heap.size w w' := by
  obtain ⟨xs, h1, h2, rfl, h4⟩ := ha.open hA
  obtain ⟨ys, g1, g2, rfl, g4⟩ := hb.open hB
  exact refadd_any va vb xs ys w h1 g1 h2 g2 (by omega) (by omega)
theorem rmul_r {va vb : Value} {A B : Nat} (w : World) (ha : RA w va A) (hb : RA w vb B) (hA : A < BN) (hB : B < BN) :
    Calls Tryd.prog 34 #[va, vb] w fun e w' => ∃ v', e = .returned v' ∧ RA w' v' (A * B) ∧ Below w.heap.size w w' := by
  obtain ⟨xs, h1, h2, rfl, h4⟩ := ha.open hA
  obtain ⟨ys, g1, g2, rfl, g4⟩ := hb.open hB
  exact refmul_any va vb xs ys w h1 g1 h2 g2 (by omega) (by omega)
theorem rcmp_r {va vb : Value} {A B : Nat} (w : World) (ha : RA w va A) (hb : RA w vb B) (hA : A < BN) (hB : B < BN) :
    Calls Tryd.prog 35 #[va, vb] w fun e w' => e = .returned (.int .i64 (cmpI A B)) ∧ Below w.heap.size w w' := by
  obtain ⟨xs, h1, h2, rfl, h4⟩ := ha.open hA
  obtain ⟨ys, g1, g2, rfl, g4⟩ := hb.open hB
  exact refcmp_any va vb xs ys w h1 g1 h2 g2 (by omega) (by omega)
theorem rshl_r {va : Value} {A n : Nat} (w : World) (ha : RA w va A) (hA : A < BN) (hn : n ≤ 16384) :
    Calls Tryd.prog 31 #[va, .int .i64 (n : Int)] w fun e w' => ∃ v', e = .returned (.tuple #[v', .int .i64 0]) ∧ RA w' v' (A * 2 ^ n) ∧ Below w.heap.size w w' := by
  obtain ⟨xs, h1, h2, rfl, h4⟩ := ha.open hA
  exact refshl_any va xs n w h1 h2 (by omega) hn
theorem rdig_r {va : Value} {A : Nat} (w : World) (ha : RA w va A) (hA : A < BN) :
    Calls Tryd.prog 36 #[va] w fun e w' => ∃ v' es, e = .returned v' ∧ Is W16 A es ∧ es.length ≤ 16 ∧ SlV w' v' (C .u64 es) ∧ Below w.heap.size w w' := by
  obtain ⟨xs, h1, h2, rfl, h4⟩ := ha.open hA
  refine (digits_any va xs w h1 h2 (by omega)).mono ?_
  rintro e w' ⟨v', es, rfl, hI, hl, hs, hb⟩
  exact ⟨v', es, rfl, hI, by omega, hs, hb⟩
theorem RA.none (w : World) (a : Addr) : RA w (.slice (some a) 0 0) 0 := by
  refine ⟨[], Is.nil, ⟨some a, 0, rfl, Nat.le_refl _, by decide, fun h => by simp at h, fun h => by simp [C] at h⟩⟩
/-- Four digits of 16 bits: the lowest 64 bits. -/
theorem four_digits {A : Nat} {es : List Nat} (h : Is W16 A es) (hl : 4 ≤ es.length) : es.getD 0 0 + es.getD 1 0 * 65536 + es.getD 2 0 * 4294967296 + es.getD 3 0 * 281474976710656 = A % 18446744073709551616 ∧ ∀ i, es.getD i 0 < 65536 := by
  have hlo : ∀ i, es.getD i 0 < 65536 := fun i => h.2.1.getD (by decide) i
  refine ⟨?_, hlo⟩
  match es, hl, h, hlo with
  | a :: b :: c :: d :: r, _, h, hlo =>
    have h1 := h.1
    have h0 : a < 65536 := by simpa using hlo 0
    have hb : b < 65536 := by simpa using hlo 1
    have hc : c < 65536 := by simpa using hlo 2
    have hd : d < 65536 := by simpa using hlo 3
    simp only [val] at h1
    simp only [show W16 = 65536 from rfl] at h1
    simp only [List.getD_cons_zero, List.getD_cons_succ]
    omega
end Go.Proofs.YtniclmghkbdkbaaDoor
