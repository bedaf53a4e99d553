/-
  The mathematics of numbers in digits, over natural numbers: the value of digits, its one form without noughts at the end, bits, bytes, comparing. Over no program.
-/
import Derived.Test.YtdpahahfcdldcaaDoorKit4
namespace Go.Proofs.YtdpahahfcdldcaaDoor
set_option linter.unusedVariables false

/-- The value of digits, the lowest first. -/
def val (B : Nat) : List Nat → Nat
  | [] => 0
  | x :: r => x + B * val B r

section
variable {B : Nat}
theorem val_append (xs ys : List Nat) : val B (xs ++ ys) = val B xs + B ^ xs.length * val B ys := by
  induction xs with
  | nil => simp [val]
  | cons x xs ih => simp only [List.cons_append, val, ih, List.length_cons, Nat.pow_succ]; rw [Nat.mul_add, ← Nat.mul_assoc, Nat.mul_comm B (B ^ xs.length), Nat.add_assoc]
theorem val_zeros (n : Nat) : val B (List.replicate n 0) = 0 := by
  induction n with
  | zero => rfl
  | succ n ih => simp [List.replicate_succ, val, ih]
theorem val_lt {xs : List Nat} (hB : 0 < B) (h : Lo B xs) : val B xs < B ^ xs.length := by
  induction xs with
  | nil => simp [val]
  | cons x xs ih =>
    have h1 : x < B := h x (by simp)
    have h2 := ih (fun y hy => h y (by simp [hy]))
    simp only [val, List.length_cons, Nat.pow_succ]
    have h3 : B * (val B xs + 1) ≤ B * B ^ xs.length := Nat.mul_le_mul_left _ h2
    rw [Nat.mul_add, Nat.mul_one] at h3
    rw [Nat.mul_comm (B ^ xs.length)]
    omega
theorem val_one (x : Nat) : val B [x] = x := by simp [val]
theorem val_take_drop (xs : List Nat) (i : Nat) (h : i ≤ xs.length) : val B xs = val B (xs.take i) + B ^ i * val B (xs.drop i) := by
  have := val_append (B := B) (xs.take i) (xs.drop i)
  rw [List.take_append_drop, List.length_take, Nat.min_eq_left h] at this
  exact this
theorem val_take_succ (xs : List Nat) (i : Nat) : val B (xs.take (i + 1)) = val B (xs.take i) + B ^ i * xs.getD i 0 := by
  by_cases h : i < xs.length
  · rw [List.take_succ_eq_append_getElem h, val_append, val_one, List.length_take, Nat.min_eq_left (by omega)]
    simp [List.getD, List.getElem?_eq_getElem h]
  · rw [List.take_of_length_le (by omega), List.take_of_length_le (by omega)]
    simp [List.getD, List.getElem?_eq_none (Nat.le_of_not_lt h)]
theorem val_ext {xs ys : List Nat} (h : ∀ j, xs.getD j 0 = ys.getD j 0) : val B xs = val B ys := by
  induction xs generalizing ys with
  | nil =>
    induction ys with
    | nil => rfl
    | cons y ys ih =>
      have h0 := h 0
      simp at h0
      have := ih (fun j => by have := h (j + 1); simpa using this)
      simp [val, ← h0, ← this]
  | cons x xs ih =>
    cases ys with
    | nil =>
      have h0 := h 0
      simp at h0
      have := ih (ys := []) (fun j => by have := h (j + 1); simpa using this)
      simp [val, h0, this]
    | cons y ys =>
      have h0 := h 0
      simp at h0
      have := ih (ys := ys) (fun j => by have := h (j + 1); simpa using this)
      simp [val, h0, this]
theorem val_drop_zero {xs : List Nat} {i : Nat} (h : ∀ j, i ≤ j → xs.getD j 0 = 0) : val B (xs.drop i) = 0 := by
  have : val B (xs.drop i) = val B [] := val_ext (fun j => by
    have := h (i + j) (by omega)
    simpa [List.getD, List.getElem?_drop] using this)
  simpa [val] using this
theorem getD_drop (xs : List Nat) (i j : Nat) : (xs.drop i).getD j 0 = xs.getD (i + j) 0 := by simp [List.getD, List.getElem?_drop]
theorem getD_take (xs : List Nat) (i j : Nat) (h : j < i) : (xs.take i).getD j 0 = xs.getD j 0 := by simp [List.getD, h]
theorem getD_past {xs : List Nat} {i : Nat} (h : xs.length ≤ i) : xs.getD i 0 = 0 := by simp [List.getD, List.getElem?_eq_none h]
theorem val_take_lt {xs : List Nat} (hB : 0 < B) (h : Lo B xs) (i : Nat) : val B (xs.take i) < B ^ i := by
  have h1 := val_lt hB (h.take i)
  have h2 : (xs.take i).length ≤ i := by simp; omega
  exact Nat.lt_of_lt_of_le h1 (Nat.pow_le_pow_right hB h2)
theorem val_take_le (xs : List Nat) (i : Nat) : val B (xs.take i) ≤ val B xs := by
  by_cases h : i ≤ xs.length
  · rw [val_take_drop xs i h]; exact Nat.le_add_right _ _
  · rw [List.take_of_length_le (by omega)]; exact Nat.le_refl _
theorem val_split (xs : List Nat) (i : Nat) : val B xs = val B (xs.take i) + B ^ i * (xs.getD i 0 + B * val B (xs.drop (i + 1))) := by
  by_cases h : i < xs.length
  · rw [val_take_drop xs i (by omega), List.drop_eq_getElem_cons h]
    simp [val, List.getD, List.getElem?_eq_getElem h]
  · rw [List.take_of_length_le (by omega), getD_past (by omega), List.drop_eq_nil_of_le (by omega)]
    simp [val]
theorem getD_val {xs : List Nat} (hB : 0 < B) (h : Lo B xs) (i : Nat) : xs.getD i 0 = val B xs / B ^ i % B := by
  have h1 := val_take_lt hB h i
  have h2 := h.getD hB i
  have hp : 0 < B ^ i := Nat.pow_pos hB
  rw [val_split xs i, Nat.add_mul_div_left _ _ hp, Nat.div_eq_of_lt h1, Nat.zero_add, Nat.add_mul_mod_self_left, Nat.mod_eq_of_lt h2]
theorem val_set {xs : List Nat} {i : Nat} (h : i < xs.length) (d : Nat) : val B (xs.set i (xs.getD i 0 + d)) = val B xs + B ^ i * d := by
  rw [val_split (xs.set i _) i, val_split xs i]
  have h1 : (xs.set i (xs.getD i 0 + d)).take i = xs.take i := by rw [List.take_set_of_le (Nat.le_refl _)]
  have h2 : (xs.set i (xs.getD i 0 + d)).drop (i + 1) = xs.drop (i + 1) := by rw [List.drop_set_of_lt (by omega)]
  have h3 : (xs.set i (xs.getD i 0 + d)).getD i 0 = xs.getD i 0 + d := by simp [List.getD, h]
  rw [h1, h2, h3, Nat.add_right_comm, Nat.mul_add, Nat.mul_add]
  omega
theorem val_take_all {xs : List Nat} {i : Nat} (hB : 0 < B) (h : val B xs < B ^ i) : val B (xs.take i) = val B xs := by
  by_cases hi : i ≤ xs.length
  · rw [val_take_drop xs i hi] at h ⊢
    have hp : 0 < B ^ i := Nat.pow_pos hB
    have : val B (xs.drop i) = 0 := by
      apply Nat.eq_zero_of_not_pos
      intro hc
      have : B ^ i * 1 ≤ B ^ i * val B (xs.drop i) := Nat.mul_le_mul_left _ hc
      omega
    rw [this]; simp
  · rw [List.take_of_length_le (by omega)]
theorem val_of_digits {xs : List Nat} {M : Nat} (hB : 0 < B) (h : ∀ i, i < xs.length → xs.getD i 0 = M / B ^ i % B) : val B xs = M % B ^ xs.length := by
  have h2 : ∀ k, k ≤ xs.length → val B (xs.take k) = M % B ^ k := by
    intro k
    induction k with
    | zero => intro _; simp [val, Nat.mod_one]
    | succ k ih =>
      intro hk
      rw [val_take_succ, ih (by omega), h k (by omega), Nat.pow_succ, Nat.mod_mul]
  have := h2 xs.length (Nat.le_refl _)
  rwa [List.take_length] at this

/-- The digits of n, without noughts at the end. -/
def Is (B n : Nat) (zs : List Nat) : Prop := val B zs = n ∧ Lo B zs ∧ (0 < zs.length → B ^ (zs.length - 1) ≤ n)
theorem Is.len {n : Nat} {zs : List Nat} (hB : 1 < B) (h : Is B n zs) (k : Nat) : zs.length ≤ k ↔ n < B ^ k := by
  obtain ⟨h1, h2, h3⟩ := h
  constructor
  · intro hk
    have := val_lt (by omega) h2
    rw [h1] at this
    exact Nat.lt_of_lt_of_le this (Nat.pow_le_pow_right (by omega) hk)
  · intro hk
    apply Nat.le_of_not_lt
    intro hc
    have := h3 (by omega)
    have h4 : B ^ (zs.length - 1) < B ^ k := by omega
    have := (Nat.pow_lt_pow_iff_right hB).1 h4
    omega
theorem Is.uniq {n : Nat} {xs ys : List Nat} (hB : 1 < B) (h : Is B n xs) (k : Is B n ys) : xs = ys := by
  have hl : xs.length = ys.length := by
    apply Nat.le_antisymm
    · exact (h.len hB _).2 ((k.len hB _).1 (Nat.le_refl _))
    · exact (k.len hB _).2 ((h.len hB _).1 (Nat.le_refl _))
  apply List.ext_getElem hl
  intro i h1 h2
  have e1 := getD_val (by omega) h.2.1 i
  have e2 := getD_val (by omega) k.2.1 i
  rw [h.1] at e1; rw [k.1] at e2
  simp [List.getD, List.getElem?_eq_getElem h1] at e1
  simp [List.getD, List.getElem?_eq_getElem h2] at e2
  omega
theorem Is.zero {zs : List Nat} (hB : 1 < B) (h : Is B 0 zs) : zs = [] := by
  have := (h.len hB 0).2 (by simp)
  exact List.eq_nil_of_length_eq_zero (by omega)
theorem Is.nil : Is B 0 [] := ⟨rfl, Lo.nil _, fun h => by simp at h⟩
theorem Is.ofLast {zs : List Nat} (hl : Lo B zs) (h : 0 < zs.length → zs.getD (zs.length - 1) 0 ≠ 0) : Is B (val B zs) zs := by
  refine ⟨rfl, hl, fun hp => ?_⟩
  rw [val_split zs (zs.length - 1)]
  have h1 : 1 ≤ zs.getD (zs.length - 1) 0 := Nat.pos_of_ne_zero (h hp)
  have h2 : B ^ (zs.length - 1) * 1 ≤ B ^ (zs.length - 1) * (zs.getD (zs.length - 1) 0 + B * val B (zs.drop (zs.length - 1 + 1))) := Nat.mul_le_mul_left _ (by omega)
  omega
theorem Is.last {n : Nat} {zs : List Nat} (hB : 1 < B) (h : Is B n zs) (hp : 0 < zs.length) : zs.getD (zs.length - 1) 0 ≠ 0 := by
  intro h0
  have h1 := h.2.2 hp
  have h2 := h.1
  rw [val_split zs (zs.length - 1), h0, List.drop_eq_nil_of_le (by omega)] at h2
  simp only [val, Nat.mul_zero, Nat.add_zero] at h2
  have := val_take_lt (by omega) h.2.1 (zs.length - 1)
  omega
theorem Is.take {xs : List Nat} {k : Nat} (hB : 0 < B) (hl : Lo B xs) (hk : k ≤ xs.length) (h1 : val B xs < B ^ k) (h2 : 0 < k → B ^ (k - 1) ≤ val B xs) : Is B (val B xs) (xs.take k) := by
  have hlen : (xs.take k).length = k := by simp; omega
  exact ⟨val_take_all hB h1, hl.take k, by rw [hlen]; exact h2⟩

theorem val_cmp {xs ys : List Nat} (hB : 0 < B) (hx : Lo B xs) (i : Nat) (h : ∀ j, i < j → xs.getD j 0 = ys.getD j 0) (hlt : xs.getD i 0 < ys.getD i 0) : val B xs < val B ys := by
  rw [val_split xs i, val_split ys i]
  have h1 : val B (xs.drop (i + 1)) = val B (ys.drop (i + 1)) := val_ext (fun j => by rw [getD_drop, getD_drop]; exact h _ (by omega))
  rw [h1]
  have h2 := val_take_lt hB hx i
  have h3 : B ^ i * (xs.getD i 0 + 1 + B * val B (ys.drop (i + 1))) ≤ B ^ i * (ys.getD i 0 + B * val B (ys.drop (i + 1))) := Nat.mul_le_mul_left _ (by omega)
  rw [Nat.mul_add, Nat.mul_add, Nat.mul_one] at h3
  rw [Nat.mul_add (B ^ i) (xs.getD i 0)]
  omega
end

/-- Which one is greater. -/
def cmpI (a b : Nat) : Int := if a < b then -1 else if b < a then 1 else 0
theorem cmpI_lt {a b : Nat} (h : a < b) : cmpI a b = -1 := by simp [cmpI, h]
theorem cmpI_gt {a b : Nat} (h : b < a) : cmpI a b = 1 := by
  have : ¬ a < b := by omega
  simp [cmpI, h, this]
theorem cmpI_eq (a : Nat) : cmpI a a = 0 := by simp [cmpI]
theorem cmpI_neg {a b : Nat} : cmpI a b < 0 ↔ a < b := by
  unfold cmpI; split
  · simp [*]
  · split <;> simp [*]
theorem cmpI_zero {a b : Nat} : cmpI a b = 0 ↔ a = b := by
  unfold cmpI; split
  · simp; omega
  · split
    · simp; omega
    · simp; omega
theorem cmpI_pos {a b : Nat} : 0 < cmpI a b ↔ b < a := by
  unfold cmpI; split
  · simp; omega
  · split
    · simp [*]
    · simp [*]
theorem cmpI_range (a b : Nat) : -1 ≤ cmpI a b ∧ cmpI a b ≤ 1 := by
  unfold cmpI; split
  · omega
  · split <;> omega

/-- How many bits. -/
def bl (n : Nat) : Nat := if n = 0 then 0 else n.log2 + 1
theorem bl_zero : bl 0 = 0 := rfl
theorem bl_le (n k : Nat) : bl n ≤ k ↔ n < 2 ^ k := by
  unfold bl
  split
  · subst n; simp [Nat.pow_pos]
  · rename_i h
    rw [Nat.succ_le_iff, Nat.log2_lt h]
theorem bl_lt (n : Nat) : n < 2 ^ bl n := (bl_le n _).1 (Nat.le_refl _)
theorem bl_ge {n : Nat} (h : n ≠ 0) : 2 ^ (bl n - 1) ≤ n := by
  apply Nat.le_of_not_lt
  intro hc
  have := (bl_le n _).2 hc
  have : bl n ≠ 0 := by unfold bl; simp [h]
  omega
theorem bl_pos {n : Nat} (h : n ≠ 0) : 0 < bl n := by unfold bl; simp [h]
theorem bl_eq {n j : Nat} (h1 : 2 ^ j ≤ n) (h2 : n < 2 ^ (j + 1)) : bl n = j + 1 := by
  have a := (bl_le n (j + 1)).2 h2
  have b : ¬ bl n ≤ j := fun h => by have := (bl_le n j).1 h; omega
  omega
theorem bl_add {m w k : Nat} (hm : m < 2 ^ k) (hw : w ≠ 0) : bl (m + 2 ^ k * w) = k + bl w := by
  have h1 := bl_lt w
  have h2 := bl_ge hw
  have h3 := bl_pos hw
  have e : k + bl w = (k + (bl w - 1)) + 1 := by omega
  rw [e]
  apply bl_eq
  · rw [Nat.pow_add]
    have := Nat.mul_le_mul_left (2 ^ k) h2
    omega
  · have e2 : k + (bl w - 1) + 1 = k + bl w := by omega
    rw [e2, Nat.pow_add]
    have h4 : 2 ^ k * (w + 1) ≤ 2 ^ k * 2 ^ bl w := Nat.mul_le_mul_left _ h1
    rw [Nat.mul_add, Nat.mul_one] at h4
    omega
theorem bl_half {n : Nat} (h : n ≠ 0) : bl n = bl (n / 2) + 1 := by
  have h1 := bl_lt n
  have h2 := bl_ge h
  by_cases h0 : n / 2 = 0
  · obtain rfl : n = 1 := by omega
    rfl
  · have := bl_add (m := n % 2) (w := n / 2) (k := 1) (by omega) h0
    rw [show n % 2 + 2 ^ 1 * (n / 2) = n by omega] at this
    omega
theorem pow32 (k : Nat) : (4294967296 : Nat) ^ k = 2 ^ (32 * k) := by rw [Nat.pow_mul]
theorem pow16 (k : Nat) : (65536 : Nat) ^ k = 2 ^ (16 * k) := by rw [Nat.pow_mul]
theorem pow8 (k : Nat) : (256 : Nat) ^ k = 2 ^ (8 * k) := by rw [Nat.pow_mul]

/-- Words of 32 bits; digits of 16. -/
abbrev W32 : Nat := 4294967296
/-- The words' first k are the number's one form, k as the bits tell. -/
theorem Is.words {xs : List Nat} (hl : Lo W32 xs) : (bl (val W32 xs) + 31) / 32 ≤ xs.length ∧ Is W32 (val W32 xs) (xs.take ((bl (val W32 xs) + 31) / 32)) := by
  have h1 := val_lt (by decide) hl
  rw [pow32] at h1
  have h2 := (bl_le _ _).2 h1
  have h3 : (bl (val W32 xs) + 31) / 32 ≤ xs.length := by omega
  refine ⟨h3, Is.take (by decide) hl h3 ?_ ?_⟩
  · rw [pow32]; apply (bl_le _ _).1; omega
  · intro hp
    rw [pow32]
    have h4 : val W32 xs ≠ 0 := by intro h; rw [h, bl_zero] at hp; omega
    have h5 := bl_ge h4
    refine Nat.le_trans (Nat.pow_le_pow_right (by decide) ?_) h5
    omega
theorem Is.words_len {n : Nat} {zs : List Nat} (h : Is W32 n zs) : zs.length = (bl n + 31) / 32 := by
  have h1 := Is.words h.2.1
  rw [h.1] at h1
  have h2 := h.uniq (by decide) h1.2
  have h3 := congrArg List.length h2
  rw [List.length_take] at h3
  omega

/-- n bytes, the highest first, of N. -/
def be (N n : Nat) : List Nat := (List.range n).map fun j => N / 256 ^ (n - 1 - j) % 256
theorem be_length (N n : Nat) : (be N n).length = n := by simp [be]
theorem be_lo (N n : Nat) : Lo 256 (be N n) := by
  intro x hx
  obtain ⟨j, _, rfl⟩ := List.mem_map.1 hx
  exact Nat.mod_lt _ (by decide)
theorem be_getD (N n j : Nat) (h : j < n) : (be N n).getD j 0 = N / 256 ^ (n - 1 - j) % 256 := by simp [be, List.getD, h]
theorem rev_getD (xs : List Nat) (j : Nat) (h : j < xs.length) : xs.reverse.getD j 0 = xs.getD (xs.length - 1 - j) 0 := by
  simp [List.getD, List.getElem?_reverse h]
theorem be_val (N n : Nat) : val 256 (be N n).reverse = N % 256 ^ n := by
  have h := val_of_digits (B := 256) (xs := (be N n).reverse) (M := N) (by decide) (fun i hi => by
    rw [List.length_reverse, be_length] at hi
    rw [rev_getD _ _ (by rw [be_length]; exact hi), be_length, be_getD _ _ _ (by omega)]
    congr 3; omega)
  rwa [List.length_reverse, be_length] at h
theorem be_of_val {xs : List Nat} (h : Lo 256 xs) : be (val 256 xs.reverse) xs.length = xs := by
  apply List.ext_getElem (be_length _ _)
  intro i h1 h2
  have e := be_getD (val 256 xs.reverse) xs.length i h2
  rw [← getD_val (by decide) h.reverse, rev_getD _ _ (by omega)] at e
  simp only [List.getD, List.getElem?_eq_getElem h1] at e
  rw [show xs.length - 1 - (xs.length - 1 - i) = i by omega, List.getElem?_eq_getElem h2] at e
  simpa using e
theorem be_more {N n k : Nat} (h : N < 256 ^ n) (hk : n ≤ k) : val 256 (be N k).reverse = N := by
  rw [be_val, Nat.mod_eq_of_lt (Nat.lt_of_lt_of_le h (Nat.pow_le_pow_right (by decide) hk))]
theorem size_le (N k : Nat) : (bl N + 7) / 8 ≤ k ↔ N < 256 ^ k := by
  rw [pow8, ← bl_le]; omega
end Go.Proofs.YtdpahahfcdldcaaDoor
