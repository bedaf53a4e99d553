/-
  Digits of a number, the lowest first; parts of its words. Over no program.
-/
import Derived.Test.YtdpahahfcdldcaaDoorFldV
namespace Go.Proofs.YtdpahahfcdldcaaDoor.F
set_option linter.unusedVariables false

/-- The lowest n digits. -/
def dig (B n N : Nat) : List Nat := (List.range n).map fun j => N / B ^ j % B
theorem dig_length (B n N : Nat) : (dig B n N).length = n := by simp [dig]
theorem dig_lo {B : Nat} (hB : 0 < B) (n N : Nat) : Lo B (dig B n N) := by
  intro x hx
  obtain ⟨j, _, rfl⟩ := List.mem_map.1 hx
  exact Nat.mod_lt _ hB
theorem dig_getD {B n N k : Nat} (h : k < n) : (dig B n N).getD k 0 = N / B ^ k % B := by simp [dig, List.getD, h]
theorem dig_val {B n N : Nat} (hB : 0 < B) (h : N < B ^ n) : val B (dig B n N) = N := by
  have := val_of_digits (xs := dig B n N) (M := N) hB (fun i hi => by rw [dig_length] at hi; exact dig_getD hi)
  rw [this, dig_length, Nat.mod_eq_of_lt h]
theorem of_dig {B : Nat} {xs : List Nat} (hB : 0 < B) (h : Lo B xs) : xs = dig B xs.length (val B xs) := by
  apply List.ext_getElem (by rw [dig_length])
  intro i h1 h2
  have e1 := getD_val hB h i
  have e2 : (dig B xs.length (val B xs)).getD i 0 = val B xs / B ^ i % B := dig_getD h1
  rw [← e2] at e1
  simpa [List.getD, List.getElem?_eq_getElem h1, List.getElem?_eq_getElem h2] using e1
theorem part_of {N q r s : Nat} (h : r + s ≤ 64) : N / 18446744073709551616 ^ q % 18446744073709551616 / 2 ^ r % 2 ^ s = N / 2 ^ (64 * q + r) % 2 ^ s := by
  have hp : (18446744073709551616 : Nat) ^ q = 2 ^ (64 * q) := by rw [Nat.pow_mul]
  have hW : (18446744073709551616 : Nat) = 2 ^ r * 2 ^ (64 - r) := by rw [← Nat.pow_add, show r + (64 - r) = 64 by omega]
  rw [hp, hW, Nat.mod_mul_right_div_self, Nat.div_div_eq_div_mul, ← Nat.pow_add]
  exact Nat.mod_mod_of_dvd _ (Nat.pow_dvd_pow 2 (by omega))
/-- A half of a word; a byte of a word. -/
theorem half_of (N k : Nat) : N / 18446744073709551616 ^ (k / 2) % 18446744073709551616 / 2 ^ (32 * (k % 2)) % 4294967296 = N / 4294967296 ^ k % 4294967296 := by
  have h := part_of (N := N) (q := k / 2) (r := 32 * (k % 2)) (s := 32) (by omega)
  rw [show (2 : Nat) ^ 32 = 4294967296 from rfl] at h
  rw [h, show 64 * (k / 2) + 32 * (k % 2) = 32 * k by omega, Nat.pow_mul]
theorem byte_of (N k : Nat) : N / 18446744073709551616 ^ (k / 8) % 18446744073709551616 / 2 ^ (8 * (k % 8)) % 256 = N / 256 ^ k % 256 := by
  have h := part_of (N := N) (q := k / 8) (r := 8 * (k % 8)) (s := 8) (by omega)
  rw [show (2 : Nat) ^ 8 = 256 from rfl] at h
  rw [h, show 64 * (k / 8) + 8 * (k % 8) = 8 * k by omega, Nat.pow_mul]
theorem B32_pow : 4294967296 ^ 8 = 115792089237316195423570985008687907853269984665640564039457584007913129639936 := by decide
theorem B256_pow : 256 ^ 32 = 115792089237316195423570985008687907853269984665640564039457584007913129639936 := by decide
/-- Two halves put together. -/
theorem two_halves {e : List Nat} (h : Lo 4294967296 e) (hl : e.length = 8) : [e.getD 0 0 + 4294967296 * e.getD 1 0, e.getD 2 0 + 4294967296 * e.getD 3 0, e.getD 4 0 + 4294967296 * e.getD 5 0, e.getD 6 0 + 4294967296 * e.getD 7 0] = wds (val 4294967296 e) ∧ val 4294967296 e < 115792089237316195423570985008687907853269984665640564039457584007913129639936 := by
  match e, hl, h with
  | [a, b, c, d, f, g, i, j], _, h =>
    have ha := h a (by simp)
    have hb := h b (by simp)
    have hc := h c (by simp)
    have hd := h d (by simp)
    have hf := h f (by simp)
    have hg := h g (by simp)
    have hi := h i (by simp)
    have hj := h j (by simp)
    have hv : val 4294967296 [a, b, c, d, f, g, i, j] = val 18446744073709551616 [a + 4294967296 * b, c + 4294967296 * d, f + 4294967296 * g, i + 4294967296 * j] := by simp only [val]; omega
    have hlo : Lo 18446744073709551616 [a + 4294967296 * b, c + 4294967296 * d, f + 4294967296 * g, i + 4294967296 * j] := by
      intro x hx
      simp only [List.mem_cons, List.not_mem_nil, or_false] at hx
      rcases hx with rfl | rfl | rfl | rfl <;> omega
    obtain ⟨k1, k2⟩ := of_wds rfl hlo
    rw [hv]
    exact ⟨by simpa using k2, k1⟩
/-- The words behind k of them. -/
def hw (e : List Nat) : List Nat := [e.getD 0 0 + 4294967296 * e.getD 1 0, e.getD 2 0 + 4294967296 * e.getD 3 0, e.getD 4 0 + 4294967296 * e.getD 5 0, e.getD 6 0 + 4294967296 * e.getD 7 0]
theorem hw_getD (e : List Nat) {k : Nat} (h : k < 4) : (hw e).getD k 0 = e.getD (2 * k) 0 + 4294967296 * e.getD (2 * k + 1) 0 := by
  rcases (by omega : k = 0 ∨ k = 1 ∨ k = 2 ∨ k = 3) with rfl | rfl | rfl | rfl <;> rfl

/-- A number's words behind k bytes: with one more. -/
theorem word_set {v k x : Nat} (hk : k < 32) (hv : v < 256 ^ k) (hx : x < 256) :
    (wds v).set (k / 8) ((wds v).getD (k / 8) 0 + x * 2 ^ (8 * (k % 8))) = wds (v + 256 ^ k * x) ∧ (wds v).getD (k / 8) 0 < 2 ^ (8 * (k % 8)) ∧ v + 256 ^ k * x < 256 ^ (k + 1) := by
  have h0 : v + 256 ^ k * x < 256 ^ (k + 1) := by
    rw [Nat.pow_succ]
    have := Nat.mul_le_mul_left (256 ^ k) (show x + 1 ≤ 256 by omega)
    rw [Nat.mul_add] at this
    omega
  have hT : (256 : Nat) ^ (k + 1) ≤ 115792089237316195423570985008687907853269984665640564039457584007913129639936 := by rw [← B256_pow]; exact Nat.pow_le_pow_right (by decide) (by omega)
  have hvT : v < 115792089237316195423570985008687907853269984665640564039457584007913129639936 := Nat.lt_of_lt_of_le hv (by rw [← B256_pow]; exact Nat.pow_le_pow_right (by decide) (by omega))
  have hW : (18446744073709551616 : Nat) ^ (k / 8) * 2 ^ (8 * (k % 8)) = 256 ^ k := by
    rw [show (18446744073709551616 : Nat) = 2 ^ 64 from rfl, ← Nat.pow_mul, ← Nat.pow_add, show 64 * (k / 8) + 8 * (k % 8) = 8 * k by omega, Nat.pow_mul]
  have hp : 0 < (18446744073709551616 : Nat) ^ (k / 8) := Nat.pow_pos (by decide)
  have hlt : (wds v).getD (k / 8) 0 < 2 ^ (8 * (k % 8)) := by
    rw [wds_getD hvT]
    refine Nat.lt_of_le_of_lt (Nat.mod_le _ _) ?_
    rw [Nat.div_lt_iff_lt_mul hp, Nat.mul_comm, hW]
    exact hv
  refine ⟨?_, hlt, h0⟩
  have hr : 8 * (k % 8) ≤ 56 := by omega
  have hx2 : x * 2 ^ (8 * (k % 8)) + 2 ^ (8 * (k % 8)) ≤ 18446744073709551616 := by
    have h1 : x * 2 ^ (8 * (k % 8)) + 2 ^ (8 * (k % 8)) = (x + 1) * 2 ^ (8 * (k % 8)) := by rw [Nat.add_mul, Nat.one_mul]
    rw [h1]
    calc (x + 1) * 2 ^ (8 * (k % 8)) ≤ 256 * 2 ^ 56 := Nat.mul_le_mul (by omega) (Nat.pow_le_pow_right (by decide) hr)
      _ ≤ 18446744073709551616 := by decide
  refine wds_of (by rw [List.length_set]; rfl) ((wds_lo v).set _ _ (by omega)) ?_
  have hs := val_set' (B := 18446744073709551616) (xs := wds v) (i := k / 8) (by rw [wds_length]; omega) ((wds v).getD (k / 8) 0 + x * 2 ^ (8 * (k % 8)))
  rw [wds_val hvT, Nat.mul_add] at hs
  have e : (18446744073709551616 : Nat) ^ (k / 8) * (x * 2 ^ (8 * (k % 8))) = 256 ^ k * x := by rw [Nat.mul_comm x, ← Nat.mul_assoc, hW]
  rw [e] at hs
  omega
theorem or_add {a x r : Nat} (h : a < 2 ^ r) : a ||| x * 2 ^ r = a + x * 2 ^ r := by
  rw [Nat.or_comm, Nat.mul_comm x, Nat.add_comm a, Nat.two_pow_add_eq_or_of_lt h x]
end Go.Proofs.YtdpahahfcdldcaaDoor.F
