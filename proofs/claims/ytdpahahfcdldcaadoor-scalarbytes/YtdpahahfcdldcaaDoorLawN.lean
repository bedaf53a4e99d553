/-
  What the laws want: arguments opened, and the contracts over numbers, over this seat's translation. Conditions: each as it says.
-/
import Derived.Test.YtdpahahfcdldcaaDoorNatX
import Derived.Test.YtdpahahfcdldcaaDoorNatH
import Derived.Test.YtdpahahfcdldcaaDoorNatK
import Derived.Test.YtdpahahfcdldcaaDoorNatF
import Derived.Test.YtdpahahfcdldcaaDoorRefC
namespace Go.Proofs.YtdpahahfcdldcaaDoor
open Go.RowKit
set_option linter.unusedVariables false

/-- A slice of words whose number is N, of no more than K words. -/
def Num (w : World) (v : Value) (N K : Nat) : Prop := ∃ xs, SlV w v (C .u32 xs) ∧ Lo W32 xs ∧ val W32 xs = N ∧ xs.length ≤ K
theorem Num.below {w w' : World} {v : Value} {N K : Nat} (h : Num w v N K) (hb : Below w.heap.size w w') : Num w' v N K := by
  obtain ⟨xs, h1, h2⟩ := h; exact ⟨xs, h1.below hb, h2⟩
theorem Num.lt {w : World} {v : Value} {N K : Nat} (h : Num w v N K) : N < W32 ^ K := by
  obtain ⟨xs, _, h2, h3, h4⟩ := h
  have := val_lt (B := W32) (by decide) h2
  rw [h3] at this
  exact Nat.lt_of_lt_of_le this (Nat.pow_le_pow_right (by decide) h4)
theorem Num.bl {w : World} {v : Value} {N K : Nat} (h : Num w v N K) : bl N ≤ 32 * K := (bl_le _ _).2 (by have := h.lt; rwa [pow32] at this)
theorem RA.num {w : World} {v : Value} {N K : Nat} (h : RA w v N) (hN : N < W32 ^ K) : Num w v N K := by
  obtain ⟨zs, h1, h2⟩ := h
  exact ⟨zs, h2, h1.2.1, h1.1, (h1.len (by decide) K).2 hN⟩
theorem RA.zero {w : World} {v : Value} (h : RA w v 0) : ∃ a cap, v = .slice a 0 cap := by
  obtain ⟨zs, h1, h2⟩ := h
  obtain ⟨a, cap, e, _, _⟩ := h2.shapeC (n := 0) (by rw [h1.zero (by decide)]; rfl)
  exact ⟨a, cap, e⟩

theorem open32 {w : World} {a : Option Addr} {len cap : Nat} {zs : List Int} (h : IsRow .u32 w a len cap zs) : ∃ xs : List Nat, SlV w (.slice a len cap) (C .u32 xs) ∧ Lo W32 xs ∧ xs.length = len := by
  obtain ⟨h1, h2, h3⟩ := h.sl
  have hb : ∀ n ∈ zs.take len, 0 ≤ n ∧ n < 4294967296 := fun n hn => by
    have := h3 n hn
    simp [Lit.wf, IntKind.min, IntKind.max, IntKind.signed, IntKind.bits] at this
    omega
  refine ⟨(zs.take len).map Int.toNat, ?_, ?_, by simpa using h2⟩
  · have e : C .u32 ((zs.take len).map Int.toNat) = (zs.take len).map (Value.int .u32) := by
      unfold C
      rw [List.map_map]
      apply List.map_congr_left
      intro n hn
      have := hb n hn
      simp only [Function.comp]
      rw [Int.toNat_of_nonneg this.1]
    rw [e]; exact h1
  · intro x hx
    obtain ⟨n, hn, rfl⟩ := List.mem_map.1 hx
    have := hb n hn
    show n.toNat < 4294967296
    omega
theorem open8 {w : World} {a : Option Addr} {len cap : Nat} {zs : List Int} (h : IsRow .u8 w a len cap zs) : ∃ xs : List Nat, SlV w (.slice a len cap) (C .u8 xs) ∧ Lo 256 xs ∧ xs.length = len := by
  obtain ⟨h1, h2, h3⟩ := h.sl
  have hb : ∀ n ∈ zs.take len, 0 ≤ n ∧ n < 256 := fun n hn => by
    have := h3 n hn
    simp [Lit.wf, IntKind.min, IntKind.max, IntKind.signed, IntKind.bits] at this
    omega
  refine ⟨(zs.take len).map Int.toNat, ?_, ?_, by simpa using h2⟩
  · have e : C .u8 ((zs.take len).map Int.toNat) = (zs.take len).map (Value.int .u8) := by
      unfold C
      rw [List.map_map]
      apply List.map_congr_left
      intro n hn
      have := hb n hn
      simp only [Function.comp]
      rw [Int.toNat_of_nonneg this.1]
    rw [e]; exact h1
  · intro x hx
    obtain ⟨n, hn, rfl⟩ := List.mem_map.1 hx
    have := hb n hn
    show n.toNat < 256
    omega

theorem add_n {va vb : Value} {A B K L : Nat} (w : World) (ha : Num w va A K) (hb : Num w vb B L) (hK : K ≤ 1000) (hL : L ≤ 1000) :
    Calls Tryd.prog 30 #[va, vb] w fun e w' => ∃ v', e = .returned v' ∧ RA w' v' (A + B) ∧ Below w.heap.size w w' := by
  obtain ⟨xs, h1, h2, h3, h4⟩ := ha
  obtain ⟨ys, g1, g2, g3, g4⟩ := hb
  subst h3; subst g3
  exact (add_any va vb xs ys w h1 g1 h2 g2 (by omega) (by omega)).mono fun e w' ⟨v, he, ans, hbl⟩ => ⟨v, he, ans.ra, hbl⟩
theorem mul_n {va vb : Value} {A B K L : Nat} (w : World) (ha : Num w va A K) (hb : Num w vb B L) (hK : K ≤ 1000) (hL : L ≤ 1000) :
    Calls Tryd.prog 34 #[va, vb] w fun e w' => ∃ v', e = .returned v' ∧ RA w' v' (A * B) ∧ Below w.heap.size w w' := by
  obtain ⟨xs, h1, h2, h3, h4⟩ := ha
  obtain ⟨ys, g1, g2, g3, g4⟩ := hb
  subst h3; subst g3
  exact (mul_any va vb xs ys w h1 g1 h2 g2 (by omega) (by omega)).mono fun e w' ⟨v, he, ans, hbl⟩ => ⟨v, he, ans.ra, hbl⟩
theorem sub_n {va vb : Value} {A B K L : Nat} (w : World) (ha : Num w va A K) (hb : Num w vb B L) (hK : K ≤ 1000) (hL : L ≤ 1000) :
    Calls Tryd.prog 32 #[va, vb] w fun e w' => ∃ v', e = .returned (.tuple #[v', .int .i64 (errLt A B)]) ∧ RA w' v' (A - B) ∧ Below w.heap.size w w' := by
  obtain ⟨xs, h1, h2, h3, h4⟩ := ha
  obtain ⟨ys, g1, g2, g3, g4⟩ := hb
  subst h3; subst g3
  exact (sub_any va vb xs ys w h1 g1 h2 g2 (by omega) (by omega)).mono fun e w' ⟨v, he, ans, hbl⟩ => ⟨v, he, ans.ra, hbl⟩
theorem div_n {va vb : Value} {A B K L : Nat} (w : World) (ha : Num w va A K) (hb : Num w vb B L) (hK : K ≤ 1000) (hL : L ≤ 1000) (h0 : B ≠ 0) :
    Calls Tryd.prog 42 #[va, vb] w fun e w' => ∃ v1 v2, e = .returned (.tuple #[v1, v2, .int .i64 0]) ∧ RA w' v1 (A / B) ∧ RA w' v2 (A % B) ∧ Below w.heap.size w w' := by
  obtain ⟨xs, h1, h2, h3, h4⟩ := ha
  obtain ⟨ys, g1, g2, g3, g4⟩ := hb
  subst h3; subst g3
  exact (div_any va vb xs ys w h1 g1 h2 g2 (by omega) (by omega) h0).mono fun e w' ⟨v, u, he, ans, ans2, hbl⟩ => ⟨v, u, he, ans.ra, ans2.ra, hbl⟩
theorem div_n0 {va vb : Value} {A K L : Nat} (w : World) (ha : Num w va A K) (hb : Num w vb 0 L) (hK : K ≤ 1000) (hL : L ≤ 1000) :
    Calls Tryd.prog 42 #[va, vb] w fun e w' => e = .returned (.tuple #[.slice none 0 0, .slice none 0 0, .int .i64 1]) ∧ Below w.heap.size w w' := by
  obtain ⟨xs, h1, h2, h3, h4⟩ := ha
  obtain ⟨ys, g1, g2, g3, g4⟩ := hb
  exact div_zero va vb xs ys w h1 g1 h2 g2 (by omega) (by omega) g3
theorem cmp_n {va vb : Value} {A B K L : Nat} (w : World) (ha : Num w va A K) (hb : Num w vb B L) (hK : K ≤ 1000) (hL : L ≤ 1000) :
    Calls Tryd.prog 49 #[va, vb] w fun e w' => e = .returned (.int .i64 (cmpI A B)) ∧ Below w.heap.size w w' := by
  obtain ⟨xs, h1, h2, h3, h4⟩ := ha
  obtain ⟨ys, g1, g2, g3, g4⟩ := hb
  subst h3; subst g3
  exact cmp_any va vb xs ys w h1 g1 h2 g2 (by omega) (by omega)
theorem bits_n {va : Value} {A K : Nat} (w : World) (ha : Num w va A K) (hK : K ≤ 1000) :
    Calls Tryd.prog 59 #[va] w fun e w' => e = .returned (.int .i64 (bl A : Nat)) ∧ Below w.heap.size w w' := by
  obtain ⟨xs, h1, h2, h3, h4⟩ := ha
  subst h3
  exact bits_any va xs w h1 h2 (by omega)
theorem shl_n {va : Value} {A K : Nat} (n : Nat) (w : World) (ha : Num w va A K) (hK : K ≤ 1000) (hn : n ≤ 16384) :
    Calls Tryd.prog 66 #[va, .int .i64 (n : Int)] w fun e w' => ∃ v', e = .returned (.tuple #[v', .int .i64 0]) ∧ RA w' v' (A * 2 ^ n) ∧ Below w.heap.size w w' := by
  obtain ⟨xs, h1, h2, h3, h4⟩ := ha
  subst h3
  exact (shl_any va xs n w h1 h2 (by omega) hn).mono fun e w' ⟨v, he, ans, hbl⟩ => ⟨v, he, ans.ra, hbl⟩
theorem shr_n {va : Value} {A K : Nat} (n : Nat) (w : World) (ha : Num w va A K) (hK : K ≤ 1000) (hn : n ≤ 16384) :
    Calls Tryd.prog 52 #[va, .int .i64 (n : Int)] w fun e w' => ∃ v', e = .returned v' ∧ RA w' v' (A / 2 ^ n) ∧ Below w.heap.size w w' := by
  obtain ⟨xs, h1, h2, h3, h4⟩ := ha
  subst h3
  exact (shr_any va xs (n : Int) w h1 h2 (by omega) (by omega)).mono fun e w' ⟨v, he, ans, hbl⟩ => ⟨v, he, ans.ra, hbl⟩
theorem shl_fits {A K n M : Nat} (h : A < W32 ^ K) (hn : n ≤ 32 * M) : A * 2 ^ n < W32 ^ (K + M) := by
  refine Nat.lt_of_lt_of_le (Nat.mul_lt_mul_of_pos_right h (Nat.pow_pos (by decide))) ?_
  rw [pow32, pow32, ← Nat.pow_add]
  exact Nat.pow_le_pow_right (by decide) (by omega)
theorem pow_sum (hB : 1 < 4294967296) {A B K L M : Nat} (ha : A < W32 ^ K) (hb : B < W32 ^ L) (hK : K ≤ M) (hL : L ≤ M) : A + B < W32 ^ (M + 1) :=
  sum_fits (by decide) (Nat.lt_of_lt_of_le ha (Nat.pow_le_pow_right (by decide) hK)) (Nat.lt_of_lt_of_le hb (Nat.pow_le_pow_right (by decide) hL))
end Go.Proofs.YtdpahahfcdldcaaDoor
