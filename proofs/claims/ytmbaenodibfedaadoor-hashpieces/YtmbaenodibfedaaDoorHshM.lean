/-
  The mathematics of a hash that goes on: numbers behind the whole blocks, what is left behind them; one piece more. Over no program.
-/
import Derived.Test.YtmbaenodibfedaaDoorKit6
namespace Go.Proofs.YtmbaenodibfedaaDoor.S9
set_option linter.unusedVariables false
section
variable {S : Type} (f : S → List Nat → S) (B : Nat) (s : S)
/-- The numbers behind n blocks. -/
def gbl (p : List Nat) : Nat → S
  | 0 => s
  | n + 1 => f (gbl p n) ((p.drop (B * n)).take B)
/-- The numbers behind the whole blocks. -/
def now (bs : List Nat) : S := gbl f B s bs (bs.length / B)
/-- What is behind them. -/
def rst (bs : List Nat) : List Nat := bs.drop (B * (bs.length / B))
theorem rst_length (bs : List Nat) (hB : 0 < B) : (rst B bs).length = bs.length % B := by
  rw [rst, List.length_drop]
  have := Nat.div_add_mod bs.length B
  omega
theorem rst_lo {bs : List Nat} {b : Nat} (h : Lo b bs) : Lo b (rst B bs) := h.drop _
theorem gbl_append (xs t : List Nat) (n : Nat) (h : B * n ≤ xs.length) : gbl f B s (xs ++ t) n = gbl f B s xs n := by
  induction n with
  | zero => rfl
  | succ n ih =>
    rw [Nat.mul_succ] at h
    rw [gbl, gbl, ih (by omega), List.drop_append_of_le_length (by omega), List.take_append_of_le_length (by simp; omega)]
theorem now_part (bs zs : List Nat) (hB : 0 < B) (h : bs.length % B + zs.length < B) : now f B s (bs ++ zs) = now f B s bs ∧ rst B (bs ++ zs) = rst B bs ++ zs := by
  have hd := Nat.div_add_mod bs.length B
  have hq : (bs ++ zs).length / B = bs.length / B := by
    rw [List.length_append, ← hd, Nat.add_assoc, Nat.mul_add_div hB, Nat.div_eq_of_lt h, hd]; rfl
  refine ⟨?_, ?_⟩
  · rw [now, hq]; exact gbl_append f B s bs zs _ (by omega)
  · rw [rst, hq, List.drop_append_of_le_length (by omega)]; rfl
theorem now_full (bs zs : List Nat) (hB : 0 < B) (h : bs.length % B + zs.length = B) : now f B s (bs ++ zs) = f (now f B s bs) (rst B bs ++ zs) ∧ rst B (bs ++ zs) = [] := by
  have hd := Nat.div_add_mod bs.length B
  have hl : (bs ++ zs).length = B * (bs.length / B + 1) := by rw [List.length_append, Nat.mul_succ]; omega
  have hq : (bs ++ zs).length / B = bs.length / B + 1 := by rw [hl]; exact Nat.mul_div_cancel_left _ hB
  refine ⟨?_, ?_⟩
  · rw [now, hq, gbl, gbl_append f B s bs zs _ (by omega), List.drop_append_of_le_length (by omega)]
    congr 1
    exact List.take_of_length_le (by rw [List.length_append, List.length_drop]; omega)
  · rw [rst, hq, ← hl]; exact List.drop_of_length_le (Nat.le_refl _)
end
end Go.Proofs.YtmbaenodibfedaaDoor.S9
