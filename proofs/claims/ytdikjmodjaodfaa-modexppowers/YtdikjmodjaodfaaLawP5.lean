/-
  What the law of powers wants besides: an array of two words, and powers. No conditions.
-/
import Derived.Test.YtdikjmodjaodfaaLawK5
namespace Go.Proofs.Ytdikjmodjaodfaa
open Go.RowKit
theorem pow_both {A X Y M : Nat} : (A ^ X % M) * (A ^ Y % M) % M = A ^ (X + Y) % M := by rw [← Nat.mul_mod, ← Nat.pow_add]
theorem pow_again {A X Y M : Nat} : (A ^ X % M) ^ Y % M = A ^ (X * Y) % M := by rw [← Nat.pow_mod, ← Nat.pow_mul]
/-- An array of two words in a box. -/
def Two (W : World) (g X Y : Nat) : Prop := W.cell? ⟨g, 0, none⟩ = some (.int .u32 (X : Int)) ∧ W.cell? ⟨g, 1, none⟩ = some (.int .u32 (Y : Int))
theorem Two.below {W W' : World} {g X Y : Nat} (h : Two W g X Y) (hb : Below W.heap.size W W') : Two W' g X Y := by
  have hl : g < W.heap.size := World.block_lt_of_cell? W ⟨g, 0, none⟩ h.1
  exact ⟨(hb.cell (p := ⟨g, 0, none⟩) hl).trans h.1, (hb.cell (p := ⟨g, 1, none⟩) hl).trans h.2⟩
theorem num_word (w : World) (n : Nat) (hn : n < 4294967296) : Num (w.alloc (.cells #[.int .u32 (n : Int)] 34)) (.slice (some ⟨w.heap.size, 0, none⟩) 1 1) n 1 := by
  have := SlV_lit w [n] (by simp)
  simp only [C, List.map_cons, List.map_nil, List.length_cons, List.length_nil, Nat.zero_add] at this
  exact ⟨[n], by simpa only [C, List.map_cons, List.map_nil] using this, by intro u hu; show u < 4294967296; simp at hu; omega, by simp [val], by simp⟩
theorem num_two (x : World) (X Y : Nat) (hX : X < 4294967296) (hY : Y < 4294967296) :
    Num ((x.alloc (.cells #[.int .u32 (X : Int)] 34)).alloc (.cells #[.int .u32 (Y : Int)] 34)).drew (.slice (some ⟨x.heap.size, 0, none⟩) 1 1) X 1 ∧
    Num ((x.alloc (.cells #[.int .u32 (X : Int)] 34)).alloc (.cells #[.int .u32 (Y : Int)] 34)).drew (.slice (some ⟨x.heap.size + 1, 0, none⟩) 1 1) Y 1 ∧
    Below x.heap.size x ((x.alloc (.cells #[.int .u32 (X : Int)] 34)).alloc (.cells #[.int .u32 (Y : Int)] 34)).drew := by
  have h1 := (num_word x X hX).below (below_lit _ (.int .u32 (Y : Int)))
  have h2 := num_word (x.alloc (.cells #[.int .u32 (X : Int)] 34)) Y hY
  rw [World.size_alloc] at h2
  refine ⟨h1.below (Below.refl _ _).drew, h2.below (Below.refl _ _).drew, ?_⟩
  exact (((Below.refl _ x).alloc (Nat.le_refl _) _).alloc (by simp) _).drew
abbrev two (x y : Int) : Value := .agg #[.int .u32 x, .int .u32 y]
end Go.Proofs.Ytdikjmodjaodfaa
