/-
  Primes: Fermat's theorem, a test by one or two prime factors of the number less one, and the prime 2^255 - 19. No conditions.
-/
namespace Go.Proofs.YtdpahahfcdldcaaDoor.F
set_option linter.unusedVariables false

/-- A prime. -/
def Pr (p : Nat) : Prop := 2 ≤ p ∧ ∀ d, d ∣ p → d = 1 ∨ d = p

theorem Pr.two_le {p : Nat} (h : Pr p) : 2 ≤ p := h.1
theorem Pr.gcd {p : Nat} (h : Pr p) (a : Nat) : Nat.gcd p a = 1 ∨ p ∣ a := by
  rcases h.2 _ (Nat.gcd_dvd_left p a) with h1 | h1
  · exact .inl h1
  · exact .inr (h1 ▸ Nat.gcd_dvd_right p a)
theorem Pr.euclid {p a b : Nat} (h : Pr p) (hd : p ∣ a * b) : p ∣ a ∨ p ∣ b := by
  rcases h.gcd a with h1 | h1
  · exact .inr (Nat.Coprime.dvd_of_dvd_mul_left h1 hd)
  · exact .inl h1

/-- How many ways to choose. -/
def ch : Nat → Nat → Nat
  | _, 0 => 1
  | 0, _ + 1 => 0
  | n + 1, k + 1 => ch n k + ch n (k + 1)
theorem ch_zero (n : Nat) : ch n 0 = 1 := by cases n <;> rfl
theorem ch_succ (n k : Nat) : ch (n + 1) (k + 1) = ch n k + ch n (k + 1) := rfl
theorem ch_more : ∀ (n k : Nat), n < k → ch n k = 0
  | 0, k + 1, _ => rfl
  | n + 1, k + 1, h => by rw [ch_succ, ch_more n k (by omega), ch_more n (k + 1) (by omega)]
theorem ch_self : ∀ n : Nat, ch n n = 1
  | 0 => rfl
  | n + 1 => by rw [ch_succ, ch_self n, ch_more n (n + 1) (by omega)]
theorem ch_times : ∀ (n k : Nat), (k + 1) * ch (n + 1) (k + 1) = (n + 1) * ch n k
  | 0, 0 => rfl
  | 0, k + 1 => by rw [ch_succ]; simp [ch]
  | n + 1, 0 => by
    have := ch_times n 0
    rw [ch_zero] at this
    rw [ch_succ (n + 1) 0, ch_zero]
    omega
  | n + 1, k + 1 => by
    have h1 := ch_times n k
    have h2 := ch_times n (k + 1)
    rw [ch_succ (n + 1) (k + 1)]
    have e1 : (k + 1 + 1) * (ch (n + 1) (k + 1) + ch (n + 1) (k + 1 + 1)) = (k + 1) * ch (n + 1) (k + 1) + ch (n + 1) (k + 1) + (k + 1 + 1) * ch (n + 1) (k + 1 + 1) := by
      rw [Nat.mul_add, Nat.add_mul (k + 1) 1, Nat.one_mul]
    rw [e1, h1, h2]
    have e2 : (n + 1 + 1) * ch (n + 1) (k + 1) = (n + 1) * ch (n + 1) (k + 1) + ch (n + 1) (k + 1) := by rw [Nat.add_mul (n + 1) 1, Nat.one_mul]
    rw [e2, ch_succ n k, Nat.mul_add]
    omega
theorem ch_prime {p k : Nat} (h : Pr p) (hk : k + 1 < p) : p ∣ ch p (k + 1) := by
  obtain ⟨q, rfl⟩ : ∃ q, p = q + 1 := ⟨p - 1, by have := h.two_le; omega⟩
  have h1 := ch_times q k
  have h2 : q + 1 ∣ (k + 1) * ch (q + 1) (k + 1) := ⟨_, h1⟩
  rcases h.euclid h2 with h3 | h3
  · exact absurd (Nat.le_of_dvd (by omega) h3) (by omega)
  · exact h3

/-- The first so many of a power's parts. -/
def bs (n a : Nat) : Nat → Nat
  | 0 => 0
  | m + 1 => bs n a m + ch n m * a ^ m
theorem bs_next (n a : Nat) : ∀ m, bs (n + 1) a (m + 1) = bs n a (m + 1) + a * bs n a m
  | 0 => by simp [bs, ch_zero]
  | m + 1 => by
    have ih := bs_next n a m
    rw [show bs (n + 1) a (m + 1 + 1) = bs (n + 1) a (m + 1) + ch (n + 1) (m + 1) * a ^ (m + 1) from rfl, ih, ch_succ]
    rw [show bs n a (m + 1 + 1) = bs n a (m + 1) + ch n (m + 1) * a ^ (m + 1) from rfl, show bs n a (m + 1) = bs n a m + ch n m * a ^ m from rfl]
    rw [Nat.mul_add a, Nat.add_mul]
    have e : a * (ch n m * a ^ m) = ch n m * a ^ (m + 1) := by rw [Nat.pow_succ, Nat.mul_left_comm, Nat.mul_comm a]
    rw [e]
    omega
theorem bs_all (a : Nat) : ∀ n, (a + 1) ^ n = bs n a (n + 1)
  | 0 => by simp [bs, ch]
  | n + 1 => by
    rw [Nat.pow_succ, bs_all a n, bs_next]
    rw [show bs n a (n + 1 + 1) = bs n a (n + 1) + ch n (n + 1) * a ^ (n + 1) from rfl, ch_more n (n + 1) (by omega)]
    rw [Nat.mul_add, Nat.mul_one, Nat.zero_mul, Nat.add_zero, Nat.mul_comm a]
    omega
theorem bs_prime {p : Nat} (h : Pr p) (a : Nat) : ∀ k, k < p → bs p a (k + 1) % p = 1 % p
  | 0, _ => by simp [bs, ch_zero]
  | k + 1, hk => by
    have ih := bs_prime h a k (by omega)
    obtain ⟨c, hc⟩ := ch_prime h hk
    rw [show bs p a (k + 1 + 1) = bs p a (k + 1) + ch p (k + 1) * a ^ (k + 1) from rfl, hc, Nat.mul_assoc, Nat.add_mul_mod_self_left]
    exact ih
theorem fermat_next {p : Nat} (h : Pr p) (a : Nat) : (a + 1) ^ p % p = (a ^ p + 1) % p := by
  have h2 := h.two_le
  obtain ⟨q, hq⟩ : ∃ q, p = q + 1 := ⟨p - 1, by omega⟩
  have h1 := bs_prime h a q (by omega)
  rw [bs_all a p, show bs p a (p + 1) = bs p a p + ch p p * a ^ p from rfl, ch_self, Nat.one_mul]
  rw [← hq] at h1
  rw [Nat.add_mod, h1, ← Nat.add_mod, Nat.add_comm]
theorem fermat_all {p : Nat} (h : Pr p) : ∀ a, a ^ p % p = a % p
  | 0 => by rw [Nat.zero_pow (by have := h.two_le; omega)]
  | a + 1 => by rw [fermat_next h a, Nat.add_mod, fermat_all h a, ← Nat.add_mod]
/-- Fermat's theorem. -/
theorem fermat {p a : Nat} (h : Pr p) (ha : ¬ p ∣ a) : a ^ (p - 1) % p = 1 := by
  have h2 := h.two_le
  have h1 := fermat_all h a
  obtain ⟨q, hq⟩ : ∃ q, p = q + 1 := ⟨p - 1, by omega⟩
  have ha0 : 0 < a := Nat.pos_of_ne_zero (fun e => ha (e ▸ Nat.dvd_zero p))
  have hp : 1 ≤ a ^ q := Nat.pow_pos ha0
  have h3 : p ∣ a * (a ^ q - 1) := by
    have e : a * a ^ q = a ^ p := by rw [hq, Nat.pow_succ']
    rw [Nat.mul_sub, Nat.mul_one, e]
    exact Nat.dvd_of_mod_eq_zero (Nat.sub_mod_eq_zero_of_mod_eq h1)
  rcases h.euclid h3 with h4 | h4
  · exact absurd h4 ha
  · obtain ⟨c, hc⟩ := h4
    rw [show p - 1 = q by omega, show a ^ q = 1 + p * c by omega, Nat.add_mul_mod_self_left, Nat.mod_eq_of_lt (by omega)]

theorem pow_one_mod {r a x y : Nat} (hr : 2 ≤ r) (h : a ^ x % r = 1) : a ^ (x * y) % r = 1 := by
  rw [Nat.pow_mul, Nat.pow_mod, h, Nat.one_pow, Nat.mod_eq_of_lt (by omega)]
theorem pow_gcd {r a : Nat} (hr : 2 ≤ r) : ∀ (n x y : Nat), x ≤ n → a ^ x % r = 1 → a ^ y % r = 1 → a ^ (Nat.gcd x y) % r = 1
  | 0, x, y, hn, hx, hy => by obtain rfl : x = 0 := by omega
                              rw [Nat.gcd_zero_left]; exact hy
  | n + 1, x, y, hn, hx, hy => by
    by_cases h0 : x = 0
    · subst h0; rw [Nat.gcd_zero_left]; exact hy
    · rw [Nat.gcd_rec]
      have hlt := Nat.mod_lt y (Nat.pos_of_ne_zero h0)
      refine pow_gcd hr n (y % x) x (by omega) ?_ hx
      have e : a ^ y = a ^ (x * (y / x)) * a ^ (y % x) := by rw [← Nat.pow_add, Nat.div_add_mod]
      rw [e, Nat.mul_mod, pow_one_mod hr hx, Nat.one_mul, Nat.mod_mod] at hy
      exact hy

/-- Each number has a prime that divides it. -/
theorem prime_of : ∀ (m n : Nat), n ≤ m → 2 ≤ n → ∃ r, Pr r ∧ r ∣ n
  | 0, n, h, h2 => by omega
  | m + 1, n, h, h2 => by
    by_cases hp : ∃ d, d ∣ n ∧ d ≠ 1 ∧ d ≠ n
    · obtain ⟨d, hd, h1, h3⟩ := hp
      have hle := Nat.le_of_dvd (by omega) hd
      have h0 : d ≠ 0 := fun e => by subst e; have := Nat.eq_zero_of_zero_dvd hd; omega
      obtain ⟨r, hr, hrd⟩ := prime_of m d (by omega) (by omega)
      exact ⟨r, hr, Nat.dvd_trans hrd hd⟩
    · refine ⟨n, ⟨h2, fun d hd => ?_⟩, Nat.dvd_refl n⟩
      by_cases h1 : d = 1
      · exact .inl h1
      · by_cases h3 : d = n
        · exact .inr h3
        · exact absurd ⟨d, hd, h1, h3⟩ hp

/-- A prime of the number less one divides each prime factor less one. -/
theorem pock_step {n q m a r : Nat} (hq : Pr q) (hn : n = q * m + 1) (h1 : a ^ (n - 1) % n = 1) (h2 : Nat.gcd (a ^ m % n + (n - 1)) n = 1) (hr : Pr r) (hrn : r ∣ n) : q ∣ r - 1 := by
  have hr2 := hr.two_le
  have k1 : a ^ (n - 1) % r = 1 := by
    have := Nat.mod_mod_of_dvd (a ^ (n - 1)) hrn
    rw [h1, Nat.mod_eq_of_lt (by omega : 1 < r)] at this
    exact this.symm
  have ha : ¬ r ∣ a := by
    intro hd
    have hm : n - 1 ≠ 0 := by
      intro h0
      have : q * m = 0 := by omega
      have : n = 1 := by omega
      rw [this] at hrn
      have := Nat.le_of_dvd (by decide) hrn
      omega
    obtain ⟨t, ht⟩ : ∃ t, n - 1 = t + 1 := ⟨n - 2, by omega⟩
    have : r ∣ a ^ (n - 1) := by rw [ht, Nat.pow_succ']; exact Nat.dvd_trans hd (Nat.dvd_mul_right a _)
    rw [Nat.mod_eq_zero_of_dvd this] at k1
    exact absurd k1 (by decide)
  have k2 := fermat hr ha
  have k3 := pow_gcd hr2 _ _ _ (Nat.le_refl _) k1 k2
  rcases hq.gcd (r - 1) with h3 | h3
  · exfalso
    have h4 : Nat.gcd (n - 1) (r - 1) ∣ m := by
      have h5 : Nat.gcd (n - 1) (r - 1) ∣ q * m := by rw [show q * m = n - 1 by omega]; exact Nat.gcd_dvd_left _ _
      refine Nat.Coprime.dvd_of_dvd_mul_left (k := Nat.gcd (n - 1) (r - 1)) (m := q) ?_ h5
      have h6 : Nat.gcd (Nat.gcd (n - 1) (r - 1)) q ∣ Nat.gcd q (r - 1) := Nat.dvd_gcd (Nat.gcd_dvd_right _ _) (Nat.dvd_trans (Nat.gcd_dvd_left _ _) (Nat.gcd_dvd_right _ _))
      rw [h3] at h6
      exact Nat.dvd_one.1 h6
    obtain ⟨c, hc⟩ := h4
    have k4 : a ^ m % r = 1 := by rw [hc]; exact pow_one_mod hr2 k3
    have k5 : (a ^ m % n) % r = 1 := by rw [Nat.mod_mod_of_dvd _ hrn]; exact k4
    obtain ⟨e, he⟩ := hrn
    have hn0 : 0 < n := by omega
    have h7 : r ∣ a ^ m % n + (n - 1) := by
      refine Nat.dvd_of_mod_eq_zero ?_
      have : a ^ m % n + (n - 1) = (a ^ m % n - 1) + n := by
        have : 1 ≤ a ^ m % n := by
          apply Nat.pos_of_ne_zero
          intro h0
          rw [h0, Nat.zero_mod] at k5
          exact absurd k5 (by decide)
        omega
      rw [this, he, Nat.add_mul_mod_self_left, ← he]
      have hdm := Nat.div_add_mod (a ^ m % n) r
      rw [k5] at hdm
      rw [show a ^ m % n - 1 = r * (a ^ m % n / r) by omega, Nat.mul_mod_right]
    have h8 := Nat.dvd_gcd h7 ⟨e, he⟩
    rw [h2] at h8
    have := Nat.le_of_dvd (by decide) h8
    omega
  · exact h3
theorem of_factors {n B : Nat} (hn : 2 ≤ n) (hB : n < (B + 1) * (B + 1)) (h : ∀ r, Pr r → r ∣ n → B ≤ r - 1) : Pr n := by
  refine ⟨hn, fun d hd => ?_⟩
  obtain ⟨e, he⟩ := hd
  by_cases h1 : d = 1
  · exact .inl h1
  · by_cases h2 : e = 1
    · right; rw [he, h2, Nat.mul_one]
    · exfalso
      have hd0 : d ≠ 0 := fun hc => by rw [hc, Nat.zero_mul] at he; omega
      have he0 : e ≠ 0 := fun hc => by rw [hc, Nat.mul_zero] at he; omega
      obtain ⟨r, hr, hrd⟩ := prime_of _ d (Nat.le_refl _) (by omega)
      obtain ⟨s, hs, hse⟩ := prime_of _ e (Nat.le_refl _) (by omega)
      have k1 := h r hr (he ▸ Nat.dvd_trans hrd ⟨e, rfl⟩)
      have k2 := h s hs (he ▸ Nat.dvd_trans hse ⟨d, Nat.mul_comm d e⟩)
      have l1 := Nat.le_of_dvd (by omega) hrd
      have l2 := Nat.le_of_dvd (by omega) hse
      have r2 := hr.two_le; have s2 := hs.two_le
      have : (B + 1) * (B + 1) ≤ d * e := Nat.mul_le_mul (by omega) (by omega)
      omega
theorem pock1 {n q m a : Nat} (hq : Pr q) (hn : n = q * m + 1) (h2n : 2 ≤ n) (hB : n < (q + 1) * (q + 1)) (h1 : a ^ (n - 1) % n = 1) (h2 : Nat.gcd (a ^ m % n + (n - 1)) n = 1) : Pr n :=
  of_factors h2n hB fun r hr hrn => Nat.le_of_dvd (by have := hr.two_le; omega) (pock_step hq hn h1 h2 hr hrn)
theorem pock2 {n q s m k a : Nat} (hq : Pr q) (hs : Pr s) (hqs : Nat.gcd q s = 1) (hn : n = q * m + 1) (hk : n = s * k + 1) (h2n : 2 ≤ n) (hB : n < (q * s + 1) * (q * s + 1)) (h1 : a ^ (n - 1) % n = 1) (h2 : Nat.gcd (a ^ m % n + (n - 1)) n = 1) (h3 : Nat.gcd (a ^ k % n + (n - 1)) n = 1) : Pr n :=
  of_factors h2n hB fun r hr hrn => Nat.le_of_dvd (by have := hr.two_le; omega) (Nat.Coprime.mul_dvd_of_dvd_of_dvd hqs (pock_step hq hn h1 h2 hr hrn) (pock_step hs hk h1 h3 hr hrn))

/-- What is left of a power, reckoned by halves. -/
def pm (n : Nat) : Nat → Nat → Nat → Nat
  | 0, _, _ => 1 % n
  | f + 1, a, e => if e = 0 then 1 % n else if e % 2 = 1 then a * pm n f (a * a % n) (e / 2) % n else pm n f (a * a % n) (e / 2)
theorem pm_eq (n : Nat) : ∀ (f a e : Nat), e < 2 ^ f → pm n f a e = a ^ e % n
  | 0, a, e, h => by obtain rfl : e = 0 := by omega
                     rfl
  | f + 1, a, e, h => by
    have ih := pm_eq n f (a * a % n) (e / 2) (by rw [Nat.pow_succ] at h; omega)
    rw [← Nat.pow_mod] at ih
    have e2 : (a * a) ^ (e / 2) = a ^ (2 * (e / 2)) := by rw [Nat.pow_mul, Nat.pow_two]
    rw [e2] at ih
    unfold pm
    by_cases h0 : e = 0
    · rw [if_pos h0, h0, Nat.pow_zero]
    · rw [if_neg h0, ih]
      by_cases h1 : e % 2 = 1
      · rw [if_pos h1, Nat.mul_mod, Nat.mod_mod, ← Nat.mul_mod, ← Nat.pow_succ']
        congr 2
        omega
      · rw [if_neg h1]
        congr 2
        omega
theorem pm_ok {n a e r : Nat} (f : Nat) (he : decide (e < 2 ^ f) = true) (h : pm n f a e = r) : a ^ e % n = r := by rw [← h, pm_eq n f a e (of_decide_eq_true he)]
theorem pockA {n q m a x : Nat} (f : Nat) (hq : Pr q) (hn : n = q * m + 1) (h2n : 2 ≤ n) (hB : n < (q + 1) * (q + 1)) (hf : n < 2 ^ f) (h1 : pm n f a (n - 1) = 1) (h2 : pm n f a m = x) (hg : Nat.gcd (x + (n - 1)) n = 1) : Pr n := by
  have hq2 := hq.two_le
  have hm : m < n := by rw [hn]; have := Nat.le_mul_of_pos_left m (show 0 < q by omega); omega
  exact pock1 (a := a) hq hn h2n hB (by rw [← pm_eq n f a _ (by omega)]; exact h1) (by rw [← pm_eq n f a _ (by omega), h2]; exact hg)
theorem pockB {n q s m k a x y : Nat} (f : Nat) (hq : Pr q) (hs : Pr s) (hqs : Nat.gcd q s = 1) (hn : n = q * m + 1) (hk : n = s * k + 1) (h2n : 2 ≤ n) (hB : n < (q * s + 1) * (q * s + 1)) (hf : n < 2 ^ f) (h1 : pm n f a (n - 1) = 1) (h2 : pm n f a m = x) (hg : Nat.gcd (x + (n - 1)) n = 1) (h3 : pm n f a k = y) (hh : Nat.gcd (y + (n - 1)) n = 1) : Pr n := by
  have hq2 := hq.two_le; have hs2 := hs.two_le
  have hm : m < n := by rw [hn]; have := Nat.le_mul_of_pos_left m (show 0 < q by omega); omega
  have hkn : k < n := by rw [hk]; have := Nat.le_mul_of_pos_left k (show 0 < s by omega); omega
  exact pock2 (a := a) hq hs hqs hn hk h2n hB (by rw [← pm_eq n f a _ (by omega)]; exact h1) (by rw [← pm_eq n f a _ (by omega), h2]; exact hg) (by rw [← pm_eq n f a _ (by omega), h3]; exact hh)
/-- Small primes, by trial. -/
def trial (n : Nat) : Bool := decide (2 ≤ n) && (List.range n).all fun d => decide (d < 2) || decide (n % d ≠ 0)
theorem of_trial {n : Nat} (h : trial n = true) : Pr n := by
  unfold trial at h
  rw [Bool.and_eq_true, decide_eq_true_eq, List.all_eq_true] at h
  refine ⟨h.1, fun d hd => ?_⟩
  have hle := Nat.le_of_dvd (by omega) hd
  by_cases h1 : d = n
  · exact .inr h1
  · have := h.2 d (List.mem_range.2 (by omega))
    simp only [Bool.or_eq_true, decide_eq_true_eq] at this
    rcases this with h2 | h2
    · have h0 : d ≠ 0 := fun e => by subst e; have := Nat.eq_zero_of_zero_dvd hd; omega
      exact .inl (by omega)
    · exact absurd (Nat.mod_eq_zero_of_dvd hd) h2
theorem pr103 : Pr 103 := of_trial (by decide +kernel)
theorem pr991 : Pr 991 := of_trial (by decide +kernel)
theorem pr127 : Pr 127 := of_trial (by decide +kernel)
theorem pr97 : Pr 97 := of_trial (by decide +kernel)
theorem pr419 : Pr 419 := of_trial (by decide +kernel)
theorem pr1723 : Pr 1723 := of_trial (by decide +kernel)
theorem pr4153 : Pr 4153 := of_trial (by decide +kernel)
theorem prime0 : Pr 8574133 :=
  pockB (q := 991) (s := 103) (m := 8652) (k := 83244) (a := 2) (x := 3435729) (y := 4321357) 24 pr991 pr103 (by decide +kernel) (by decide +kernel) (by decide +kernel) (by decide +kernel) (by decide +kernel) (by decide +kernel) (by decide +kernel) (by decide +kernel) (by decide +kernel) (by decide +kernel) (by decide +kernel)
theorem prime1 : Pr 1919519569386763 :=
  pockB (q := 8574133) (s := 127) (m := 223873314) (k := 15114327318006) (a := 2) (x := 1059928654987441) (y := 576774792492622) 51 prime0 pr127 (by decide +kernel) (by decide +kernel) (by decide +kernel) (by decide +kernel) (by decide +kernel) (by decide +kernel) (by decide +kernel) (by decide +kernel) (by decide +kernel) (by decide +kernel) (by decide +kernel)
theorem prime2 : Pr 569003 :=
  pockB (q := 419) (s := 97) (m := 1358) (k := 5866) (a := 2) (x := 236160) (y := 439588) 20 pr419 pr97 (by decide +kernel) (by decide +kernel) (by decide +kernel) (by decide +kernel) (by decide +kernel) (by decide +kernel) (by decide +kernel) (by decide +kernel) (by decide +kernel) (by decide +kernel) (by decide +kernel)
theorem prime3 : Pr 2773320623 :=
  pockA (q := 569003) (m := 4874) (a := 2) (x := 2039232613) 32 prime2 (by decide +kernel) (by decide +kernel) (by decide +kernel) (by decide +kernel) (by decide +kernel) (by decide +kernel) (by decide +kernel)
theorem prime4 : Pr 72106336199 :=
  pockA (q := 2773320623) (m := 26) (a := 2) (x := 67108864) 37 prime3 (by decide +kernel) (by decide +kernel) (by decide +kernel) (by decide +kernel) (by decide +kernel) (by decide +kernel) (by decide +kernel)
theorem prime5 : Pr 75445702479781427272750846543864801 :=
  pockB (q := 1919519569386763) (s := 72106336199) (m := 39304471641247389600) (k := 1046311689884858398375200) (a := 2) (x := 56747016255153332959347766392083459) (y := 71619851993489548214160924360205394) 116 prime1 prime4 (by decide +kernel) (by decide +kernel) (by decide +kernel) (by decide +kernel) (by decide +kernel) (by decide +kernel) (by decide +kernel) (by decide +kernel) (by decide +kernel) (by decide +kernel) (by decide +kernel)
theorem prime6 : Pr 430751 :=
  pockA (q := 1723) (m := 250) (a := 2) (x := 293176) 19 pr1723 (by decide +kernel) (by decide +kernel) (by decide +kernel) (by decide +kernel) (by decide +kernel) (by decide +kernel) (by decide +kernel)
theorem prime7 : Pr 31757755568855353 :=
  pockB (q := 430751) (s := 4153) (m := 73726481352) (k := 7646943310584) (a := 2) (x := 15280470251845350) (y := 28256283979054930) 55 prime6 pr4153 (by decide +kernel) (by decide +kernel) (by decide +kernel) (by decide +kernel) (by decide +kernel) (by decide +kernel) (by decide +kernel) (by decide +kernel) (by decide +kernel) (by decide +kernel) (by decide +kernel)
theorem prime8 : Pr 74058212732561358302231226437062788676166966415465897661863160754340907 :=
  pockB (q := 75445702479781427272750846543864801) (s := 31757755568855353) (m := 981609426360740691344999861639072106) (k := 2331972502653487852620185443007392165117953542933313402) (a := 2) (x := 69490809710348678725736597923071784769591275419387514694139338586948360) (y := 50366660687963342066214195241331738400016478712605795091965648721912165) 236 prime5 prime7 (by decide +kernel) (by decide +kernel) (by decide +kernel) (by decide +kernel) (by decide +kernel) (by decide +kernel) (by decide +kernel) (by decide +kernel) (by decide +kernel) (by decide +kernel) (by decide +kernel)
theorem prime25519 : Pr 57896044618658097711785492504343953926634992332820282019728792003956564819949 :=
  pockA (q := 74058212732561358302231226437062788676166966415465897661863160754340907) (m := 781764) (a := 2) (x := 427094198651976259540344842774561673889945192655078505504941250475370961481) 255 prime8 (by decide +kernel) (by decide +kernel) (by decide +kernel) (by decide +kernel) (by decide +kernel) (by decide +kernel) (by decide +kernel)
end Go.Proofs.YtdpahahfcdldcaaDoor.F
