/-
 Texts joined:  Prm FldM PrmL EdM EdN EdG EdT EdO EdU EdV EdW
-/
namespace Go.Proofs.YtmjimilhomabfaaGreatDoor.F
set_option linter.unusedVariables false
def Pr (p:Nat):Prop:=2 ≤ p ∧ ∀ d,d ∣ p → d = 1 ∨ d = p
theorem Pr.two_le {p:Nat} (h:Pr p):2 ≤ p:=h.1
theorem Pr.gcd {p:Nat} (h:Pr p) (a:Nat):Nat.gcd p a = 1 ∨ p ∣ a:=by
 rcases h.2 _ (Nat.gcd_dvd_left p a) with h1 | h1
 ·exact .inl h1
 ·exact .inr (h1 ▸ Nat.gcd_dvd_right p a)
theorem Pr.euclid {p a b:Nat} (h:Pr p) (hd:p ∣ a * b):p ∣ a ∨ p ∣ b:=by
 rcases h.gcd a with h1 | h1
 ·exact .inr (Nat.Coprime.dvd_of_dvd_mul_left h1 hd)
 ·exact .inl h1
def ch:Nat → Nat → Nat
 | _,0=>1
 | 0,_ + 1=>0
 | n + 1,k + 1=>ch n k + ch n (k + 1)
theorem ch_zero (n:Nat):ch n 0 = 1:=by cases n <;> rfl
theorem ch_succ (n k:Nat):ch (n + 1) (k + 1) = ch n k + ch n (k + 1):=rfl
theorem ch_more:∀ (n k:Nat),n < k → ch n k = 0
 | 0,k + 1,_=>rfl
 | n + 1,k + 1,h=>by rw [ch_succ,ch_more n k (by omega),ch_more n (k + 1) (by omega)]
theorem ch_self:∀ n:Nat,ch n n = 1
 | 0=>rfl
 | n + 1=>by rw [ch_succ,ch_self n,ch_more n (n + 1) (by omega)]
theorem ch_times:∀ (n k:Nat),(k + 1) * ch (n + 1) (k + 1) = (n + 1) * ch n k
 | 0,0=>rfl
 | 0,k + 1=>by rw [ch_succ];simp [ch]
 | n + 1,0=>by
  have:=ch_times n 0
  rw [ch_zero] at this
  rw [ch_succ (n + 1) 0,ch_zero]
  omega
 | n + 1,k + 1=>by
  have h1:=ch_times n k
  have h2:=ch_times n (k + 1)
  rw [ch_succ (n + 1) (k + 1)]
  have e1:(k + 1 + 1) * (ch (n + 1) (k + 1) + ch (n + 1) (k + 1 + 1)) = (k + 1) * ch (n + 1) (k + 1) + ch (n + 1) (k + 1) + (k + 1 + 1) * ch (n + 1) (k + 1 + 1):=by
   rw [Nat.mul_add,Nat.add_mul (k + 1) 1,Nat.one_mul]
  rw [e1,h1,h2]
  have e2:(n + 1 + 1) * ch (n + 1) (k + 1) = (n + 1) * ch (n + 1) (k + 1) + ch (n + 1) (k + 1):=by rw [Nat.add_mul (n + 1) 1,Nat.one_mul]
  rw [e2,ch_succ n k,Nat.mul_add]
  omega
theorem ch_prime {p k:Nat} (h:Pr p) (hk:k + 1 < p):p ∣ ch p (k + 1):=by
 obtain ⟨q,rfl⟩:∃ q,p = q + 1:=⟨p - 1,by have:=h.two_le;omega⟩
 have h1:=ch_times q k
 have h2:q + 1 ∣ (k + 1) * ch (q + 1) (k + 1):=⟨_,h1⟩
 rcases h.euclid h2 with h3 | h3
 ·exact absurd (Nat.le_of_dvd (by omega) h3) (by omega)
 ·exact h3
def bs (n a:Nat):Nat → Nat
 | 0=>0
 | m + 1=>bs n a m + ch n m * a ^ m
theorem bs_next (n a:Nat):∀ m,bs (n + 1) a (m + 1) = bs n a (m + 1) + a * bs n a m
 | 0=>by simp [bs,ch_zero]
 | m + 1=>by
  have ih:=bs_next n a m
  rw [show bs (n + 1) a (m + 1 + 1) = bs (n + 1) a (m + 1) + ch (n + 1) (m + 1) * a ^ (m + 1) from rfl,ih,ch_succ]
  rw [show bs n a (m + 1 + 1) = bs n a (m + 1) + ch n (m + 1) * a ^ (m + 1) from rfl,show bs n a (m + 1) = bs n a m + ch n m * a ^ m from rfl]
  rw [Nat.mul_add a,Nat.add_mul]
  have e:a * (ch n m * a ^ m) = ch n m * a ^ (m + 1):=by rw [Nat.pow_succ,Nat.mul_left_comm,Nat.mul_comm a]
  rw [e]
  omega
theorem bs_all (a:Nat):∀ n,(a + 1) ^ n = bs n a (n + 1)
 | 0=>by simp [bs,ch]
 | n + 1=>by
  rw [Nat.pow_succ,bs_all a n,bs_next]
  rw [show bs n a (n + 1 + 1) = bs n a (n + 1) + ch n (n + 1) * a ^ (n + 1) from rfl,ch_more n (n + 1) (by omega)]
  rw [Nat.mul_add,Nat.mul_one,Nat.zero_mul,Nat.add_zero,Nat.mul_comm a]
  omega
theorem bs_prime {p:Nat} (h:Pr p) (a:Nat):∀ k,k < p → bs p a (k + 1) % p = 1 % p
 | 0,_=>by simp [bs,ch_zero]
 | k + 1,hk=>by
  have ih:=bs_prime h a k (by omega)
  obtain ⟨c,hc⟩:=ch_prime h hk
  rw [show bs p a (k + 1 + 1) = bs p a (k + 1) + ch p (k + 1) * a ^ (k + 1) from rfl,hc,Nat.mul_assoc,Nat.add_mul_mod_self_left]
  exact ih
theorem fermat_next {p:Nat} (h:Pr p) (a:Nat):(a + 1) ^ p % p = (a ^ p + 1) % p:=by
 have h2:=h.two_le
 obtain ⟨q,hq⟩:∃ q,p = q + 1:=⟨p - 1,by omega⟩
 have h1:=bs_prime h a q (by omega)
 rw [bs_all a p,show bs p a (p + 1) = bs p a p + ch p p * a ^ p from rfl,ch_self,Nat.one_mul]
 rw [← hq] at h1
 rw [Nat.add_mod,h1,← Nat.add_mod,Nat.add_comm]
theorem fermat_all {p:Nat} (h:Pr p):∀ a,a ^ p % p = a % p
 | 0=>by rw [Nat.zero_pow (by have:=h.two_le;omega)]
 | a + 1=>by rw [fermat_next h a,Nat.add_mod,fermat_all h a,← Nat.add_mod]
theorem fermat {p a:Nat} (h:Pr p) (ha:¬ p ∣ a):a ^ (p - 1) % p = 1:=by
 have h2:=h.two_le
 have h1:=fermat_all h a
 obtain ⟨q,hq⟩:∃ q,p = q + 1:=⟨p - 1,by omega⟩
 have ha0:0 < a:=Nat.pos_of_ne_zero (fun e=>ha (e ▸ Nat.dvd_zero p))
 have hp:1 ≤ a ^ q:=Nat.pow_pos ha0
 have h3:p ∣ a * (a ^ q - 1):=by
  have e:a * a ^ q = a ^ p:=by rw [hq,Nat.pow_succ']
  rw [Nat.mul_sub,Nat.mul_one,e]
  exact Nat.dvd_of_mod_eq_zero (Nat.sub_mod_eq_zero_of_mod_eq h1)
 rcases h.euclid h3 with h4 | h4
 ·exact absurd h4 ha
 ·obtain ⟨c,hc⟩:=h4
  rw [show p - 1 = q by omega,show a ^ q = 1 + p * c by omega,Nat.add_mul_mod_self_left,Nat.mod_eq_of_lt (by omega)]
theorem pow_one_mod {r a x y:Nat} (hr:2 ≤ r) (h:a ^ x % r = 1):a ^ (x * y) % r = 1:=by
 rw [Nat.pow_mul,Nat.pow_mod,h,Nat.one_pow,Nat.mod_eq_of_lt (by omega)]
theorem pow_gcd {r a:Nat} (hr:2 ≤ r):∀ (n x y:Nat),x ≤ n → a ^ x % r = 1 → a ^ y % r = 1 → a ^ (Nat.gcd x y) % r = 1
 | 0,x,y,hn,hx,hy=>by
               obtain rfl:x = 0:=by omega
               rw [Nat.gcd_zero_left];exact hy
 | n + 1,x,y,hn,hx,hy=>by
  by_cases h0:x = 0
  ·subst h0;rw [Nat.gcd_zero_left];exact hy
  ·rw [Nat.gcd_rec]
   have hlt:=Nat.mod_lt y (Nat.pos_of_ne_zero h0)
   refine pow_gcd hr n (y % x) x (by omega) ?_ hx
   have e:a ^ y = a ^ (x * (y / x)) * a ^ (y % x):=by rw [← Nat.pow_add,Nat.div_add_mod]
   rw [e,Nat.mul_mod,pow_one_mod hr hx,Nat.one_mul,Nat.mod_mod] at hy
   exact hy
theorem prime_of:∀ (m n:Nat),n ≤ m → 2 ≤ n → ∃ r,Pr r ∧ r ∣ n
 | 0,n,h,h2=>by omega
 | m + 1,n,h,h2=>by
  by_cases hp:∃ d,d ∣ n ∧ d ≠ 1 ∧ d ≠ n
  ·obtain ⟨d,hd,h1,h3⟩:=hp
   have hle:=Nat.le_of_dvd (by omega) hd
   have h0:d ≠ 0:=fun e=>by subst e;have:=Nat.eq_zero_of_zero_dvd hd;omega
   obtain ⟨r,hr,hrd⟩:=prime_of m d (by omega) (by omega)
   exact ⟨r,hr,Nat.dvd_trans hrd hd⟩
  ·refine ⟨n,⟨h2,fun d hd=>?_⟩,Nat.dvd_refl n⟩
   by_cases h1:d = 1
   ·exact .inl h1
   ·by_cases h3:d = n
    ·exact .inr h3
    ·exact absurd ⟨d,hd,h1,h3⟩ hp
theorem pock_step {n q m a r:Nat} (hq:Pr q) (hn:n = q * m + 1) (h1:a ^ (n - 1) % n = 1) (h2:Nat.gcd (a ^ m % n + (n - 1)) n = 1) (hr:Pr r) (hrn:r ∣ n):q ∣ r - 1:=by
 have hr2:=hr.two_le
 have k1:a ^ (n - 1) % r = 1:=by
  have:=Nat.mod_mod_of_dvd (a ^ (n - 1)) hrn
  rw [h1,Nat.mod_eq_of_lt (by omega:1 < r)] at this
  exact this.symm
 have ha:¬ r ∣ a:=by
  intro hd
  have hm:n - 1 ≠ 0:=by
   intro h0
   have:q * m = 0:=by omega
   have:n = 1:=by omega
   rw [this] at hrn
   have:=Nat.le_of_dvd (by decide) hrn
   omega
  obtain ⟨t,ht⟩:∃ t,n - 1 = t + 1:=⟨n - 2,by omega⟩
  have:r ∣ a ^ (n - 1):=by rw [ht,Nat.pow_succ'];exact Nat.dvd_trans hd (Nat.dvd_mul_right a _)
  rw [Nat.mod_eq_zero_of_dvd this] at k1
  exact absurd k1 (by decide)
 have k2:=fermat hr ha
 have k3:=pow_gcd hr2 _ _ _ (Nat.le_refl _) k1 k2
 rcases hq.gcd (r - 1) with h3 | h3
 ·exfalso
  have h4:Nat.gcd (n - 1) (r - 1) ∣ m:=by
   have h5:Nat.gcd (n - 1) (r - 1) ∣ q * m:=by rw [show q * m = n - 1 by omega];exact Nat.gcd_dvd_left _ _
   refine Nat.Coprime.dvd_of_dvd_mul_left (k:=Nat.gcd (n - 1) (r - 1)) (m:=q) ?_ h5
   have h6:Nat.gcd (Nat.gcd (n - 1) (r - 1)) q ∣ Nat.gcd q (r - 1):=Nat.dvd_gcd (Nat.gcd_dvd_right _ _) (Nat.dvd_trans (Nat.gcd_dvd_left _ _) (Nat.gcd_dvd_right _ _))
   rw [h3] at h6
   exact Nat.dvd_one.1 h6
  obtain ⟨c,hc⟩:=h4
  have k4:a ^ m % r = 1:=by rw [hc];exact pow_one_mod hr2 k3
  have k5:(a ^ m % n) % r = 1:=by rw [Nat.mod_mod_of_dvd _ hrn];exact k4
  obtain ⟨e,he⟩:=hrn
  have hn0:0 < n:=by omega
  have h7:r ∣ a ^ m % n + (n - 1):=by
   refine Nat.dvd_of_mod_eq_zero ?_
   have:a ^ m % n + (n - 1) = (a ^ m % n - 1) + n:=by
    have:1 ≤ a ^ m % n:=by
     apply Nat.pos_of_ne_zero
     intro h0
     rw [h0,Nat.zero_mod] at k5
     exact absurd k5 (by decide)
    omega
   rw [this,he,Nat.add_mul_mod_self_left,← he]
   have hdm:=Nat.div_add_mod (a ^ m % n) r
   rw [k5] at hdm
   rw [show a ^ m % n - 1 = r * (a ^ m % n / r) by omega,Nat.mul_mod_right]
  have h8:=Nat.dvd_gcd h7 ⟨e,he⟩
  rw [h2] at h8
  have:=Nat.le_of_dvd (by decide) h8
  omega
 ·exact h3
theorem of_factors {n B:Nat} (hn:2 ≤ n) (hB:n < (B + 1) * (B + 1)) (h:∀ r,Pr r → r ∣ n → B ≤ r - 1):Pr n:=by
 refine ⟨hn,fun d hd=>?_⟩
 obtain ⟨e,he⟩:=hd
 by_cases h1:d = 1
 ·exact .inl h1
 ·by_cases h2:e = 1
  ·right;rw [he,h2,Nat.mul_one]
  ·exfalso
   have hd0:d ≠ 0:=fun hc=>by rw [hc,Nat.zero_mul] at he;omega
   have he0:e ≠ 0:=fun hc=>by rw [hc,Nat.mul_zero] at he;omega
   obtain ⟨r,hr,hrd⟩:=prime_of _ d (Nat.le_refl _) (by omega)
   obtain ⟨s,hs,hse⟩:=prime_of _ e (Nat.le_refl _) (by omega)
   have k1:=h r hr (he ▸ Nat.dvd_trans hrd ⟨e,rfl⟩)
   have k2:=h s hs (he ▸ Nat.dvd_trans hse ⟨d,Nat.mul_comm d e⟩)
   have l1:=Nat.le_of_dvd (by omega) hrd
   have l2:=Nat.le_of_dvd (by omega) hse
   have r2:=hr.two_le;have s2:=hs.two_le
   have:(B + 1) * (B + 1) ≤ d * e:=Nat.mul_le_mul (by omega) (by omega)
   omega
theorem pock1 {n q m a:Nat} (hq:Pr q) (hn:n = q * m + 1) (h2n:2 ≤ n) (hB:n < (q + 1) * (q + 1)) (h1:a ^ (n - 1) % n = 1) (h2:Nat.gcd (a ^ m % n + (n - 1)) n = 1):Pr n :=
 of_factors h2n hB fun r hr hrn=>Nat.le_of_dvd (by have:=hr.two_le;omega) (pock_step hq hn h1 h2 hr hrn)
theorem pock2 {n q s m k a:Nat} (hq:Pr q) (hs:Pr s) (hqs:Nat.gcd q s = 1) (hn:n = q * m + 1) (hk:n = s * k + 1) (h2n:2 ≤ n) (hB:n < (q * s + 1) * (q * s + 1)) (h1:a ^ (n - 1) % n = 1) (h2:Nat.gcd (a ^ m % n + (n - 1)) n = 1) (h3:Nat.gcd (a ^ k % n + (n - 1)) n = 1):Pr n :=
 of_factors h2n hB fun r hr hrn=>Nat.le_of_dvd (by have:=hr.two_le;omega) (Nat.Coprime.mul_dvd_of_dvd_of_dvd hqs (pock_step hq hn h1 h2 hr hrn) (pock_step hs hk h1 h3 hr hrn))
def pm (n:Nat):Nat → Nat → Nat → Nat
 | 0,_,_=>1 % n
 | f + 1,a,e=>if e = 0 then 1 % n else if e % 2 = 1 then a * pm n f (a * a % n) (e / 2) % n else pm n f (a * a % n) (e / 2)
theorem pm_eq (n:Nat):∀ (f a e:Nat),e < 2 ^ f → pm n f a e = a ^ e % n
 | 0,a,e,h=>by
           obtain rfl:e = 0:=by omega
           rfl
 | f + 1,a,e,h=>by
  have ih:=pm_eq n f (a * a % n) (e / 2) (by rw [Nat.pow_succ] at h;omega)
  rw [← Nat.pow_mod] at ih
  have e2:(a * a) ^ (e / 2) = a ^ (2 * (e / 2)):=by rw [Nat.pow_mul,Nat.pow_two]
  rw [e2] at ih
  unfold pm
  by_cases h0:e = 0
  ·rw [if_pos h0,h0,Nat.pow_zero]
  ·rw [if_neg h0,ih]
   by_cases h1:e % 2 = 1
   ·rw [if_pos h1,Nat.mul_mod,Nat.mod_mod,← Nat.mul_mod,← Nat.pow_succ']
    congr 2
    omega
   ·rw [if_neg h1]
    congr 2
    omega
theorem pm_ok {n a e r:Nat} (f:Nat) (he:decide (e < 2 ^ f) = true) (h:pm n f a e = r):a ^ e % n = r:=by rw [← h,pm_eq n f a e (of_decide_eq_true he)]
theorem pockA {n q m a x:Nat} (f:Nat) (hq:Pr q) (hn:n = q * m + 1) (h2n:2 ≤ n) (hB:n < (q + 1) * (q + 1)) (hf:n < 2 ^ f) (h1:pm n f a (n - 1) = 1) (h2:pm n f a m = x) (hg:Nat.gcd (x + (n - 1)) n = 1):Pr n:=by
 have hq2:=hq.two_le
 have hm:m < n:=by rw [hn];have:=Nat.le_mul_of_pos_left m (show 0 < q by omega);omega
 exact pock1 (a:=a) hq hn h2n hB (by rw [← pm_eq n f a _ (by omega)];exact h1) (by rw [← pm_eq n f a _ (by omega),h2];exact hg)
theorem pockB {n q s m k a x y:Nat} (f:Nat) (hq:Pr q) (hs:Pr s) (hqs:Nat.gcd q s = 1) (hn:n = q * m + 1) (hk:n = s * k + 1) (h2n:2 ≤ n) (hB:n < (q * s + 1) * (q * s + 1)) (hf:n < 2 ^ f) (h1:pm n f a (n - 1) = 1) (h2:pm n f a m = x) (hg:Nat.gcd (x + (n - 1)) n = 1) (h3:pm n f a k = y) (hh:Nat.gcd (y + (n - 1)) n = 1):Pr n:=by
 have hq2:=hq.two_le;have hs2:=hs.two_le
 have hm:m < n:=by rw [hn];have:=Nat.le_mul_of_pos_left m (show 0 < q by omega);omega
 have hkn:k < n:=by rw [hk];have:=Nat.le_mul_of_pos_left k (show 0 < s by omega);omega
 exact pock2 (a:=a) hq hs hqs hn hk h2n hB (by rw [← pm_eq n f a _ (by omega)];exact h1) (by rw [← pm_eq n f a _ (by omega),h2];exact hg) (by rw [← pm_eq n f a _ (by omega),h3];exact hh)
def trial (n:Nat):Bool:=decide (2 ≤ n) && (List.range n).all fun d=>decide (d < 2) || decide (n % d ≠ 0)
theorem of_trial {n:Nat} (h:trial n = true):Pr n:=by
 unfold trial at h
 rw [Bool.and_eq_true,decide_eq_true_eq,List.all_eq_true] at h
 refine ⟨h.1,fun d hd=>?_⟩
 have hle:=Nat.le_of_dvd (by omega) hd
 by_cases h1:d = n
 ·exact .inr h1
 ·have:=h.2 d (List.mem_range.2 (by omega))
  simp only [Bool.or_eq_true,decide_eq_true_eq] at this
  rcases this with h2 | h2
  ·have h0:d ≠ 0:=fun e=>by subst e;have:=Nat.eq_zero_of_zero_dvd hd;omega
   exact .inl (by omega)
  ·exact absurd (Nat.mod_eq_zero_of_dvd hd) h2
theorem pr103:Pr 103:=of_trial (by decide +kernel)
theorem pr991:Pr 991:=of_trial (by decide +kernel)
theorem pr127:Pr 127:=of_trial (by decide +kernel)
theorem pr97:Pr 97:=of_trial (by decide +kernel)
theorem pr419:Pr 419:=of_trial (by decide +kernel)
theorem pr1723:Pr 1723:=of_trial (by decide +kernel)
theorem pr4153:Pr 4153:=of_trial (by decide +kernel)
theorem prime0:Pr 8574133 :=
 pockB (q:=991) (s:=103) (m:=8652) (k:=83244) (a:=2) (x:=3435729) (y:=4321357) 24 pr991 pr103 (by decide +kernel) (by decide +kernel) (by decide +kernel) (by decide +kernel) (by decide +kernel) (by decide +kernel) (by decide +kernel) (by decide +kernel) (by decide +kernel) (by decide +kernel) (by decide +kernel)
theorem prime1:Pr 1919519569386763 :=
 pockB (q:=8574133) (s:=127) (m:=223873314) (k:=15114327318006) (a:=2) (x:=1059928654987441) (y:=576774792492622) 51 prime0 pr127 (by decide +kernel) (by decide +kernel) (by decide +kernel) (by decide +kernel) (by decide +kernel) (by decide +kernel) (by decide +kernel) (by decide +kernel) (by decide +kernel) (by decide +kernel) (by decide +kernel)
theorem prime2:Pr 569003 :=
 pockB (q:=419) (s:=97) (m:=1358) (k:=5866) (a:=2) (x:=236160) (y:=439588) 20 pr419 pr97 (by decide +kernel) (by decide +kernel) (by decide +kernel) (by decide +kernel) (by decide +kernel) (by decide +kernel) (by decide +kernel) (by decide +kernel) (by decide +kernel) (by decide +kernel) (by decide +kernel)
theorem prime3:Pr 2773320623 :=
 pockA (q:=569003) (m:=4874) (a:=2) (x:=2039232613) 32 prime2 (by decide +kernel) (by decide +kernel) (by decide +kernel) (by decide +kernel) (by decide +kernel) (by decide +kernel) (by decide +kernel)
theorem prime4:Pr 72106336199 :=
 pockA (q:=2773320623) (m:=26) (a:=2) (x:=67108864) 37 prime3 (by decide +kernel) (by decide +kernel) (by decide +kernel) (by decide +kernel) (by decide +kernel) (by decide +kernel) (by decide +kernel)
theorem prime5:Pr 75445702479781427272750846543864801 :=
 pockB (q:=1919519569386763) (s:=72106336199) (m:=39304471641247389600) (k:=1046311689884858398375200) (a:=2) (x:=56747016255153332959347766392083459) (y:=71619851993489548214160924360205394) 116 prime1 prime4 (by decide +kernel) (by decide +kernel) (by decide +kernel) (by decide +kernel) (by decide +kernel) (by decide +kernel) (by decide +kernel) (by decide +kernel) (by decide +kernel) (by decide +kernel) (by decide +kernel)
theorem prime6:Pr 430751 :=
 pockA (q:=1723) (m:=250) (a:=2) (x:=293176) 19 pr1723 (by decide +kernel) (by decide +kernel) (by decide +kernel) (by decide +kernel) (by decide +kernel) (by decide +kernel) (by decide +kernel)
theorem prime7:Pr 31757755568855353 :=
 pockB (q:=430751) (s:=4153) (m:=73726481352) (k:=7646943310584) (a:=2) (x:=15280470251845350) (y:=28256283979054930) 55 prime6 pr4153 (by decide +kernel) (by decide +kernel) (by decide +kernel) (by decide +kernel) (by decide +kernel) (by decide +kernel) (by decide +kernel) (by decide +kernel) (by decide +kernel) (by decide +kernel) (by decide +kernel)
theorem prime8:Pr 74058212732561358302231226437062788676166966415465897661863160754340907 :=
 pockB (q:=75445702479781427272750846543864801) (s:=31757755568855353) (m:=981609426360740691344999861639072106) (k:=2331972502653487852620185443007392165117953542933313402) (a:=2) (x:=69490809710348678725736597923071784769591275419387514694139338586948360) (y:=50366660687963342066214195241331738400016478712605795091965648721912165) 236 prime5 prime7 (by decide +kernel) (by decide +kernel) (by decide +kernel) (by decide +kernel) (by decide +kernel) (by decide +kernel) (by decide +kernel) (by decide +kernel) (by decide +kernel) (by decide +kernel) (by decide +kernel)
theorem prime25519:Pr 57896044618658097711785492504343953926634992332820282019728792003956564819949 :=
 pockA (q:=74058212732561358302231226437062788676166966415465897661863160754340907) (m:=781764) (a:=2) (x:=427094198651976259540344842774561673889945192655078505504941250475370961481) 255 prime8 (by decide +kernel) (by decide +kernel) (by decide +kernel) (by decide +kernel) (by decide +kernel) (by decide +kernel) (by decide +kernel)
def P:Nat:=57896044618658097711785492504343953926634992332820282019728792003956564819949
theorem P_prime:Pr P:=prime25519
theorem P_two:2 < P:=by decide +kernel
theorem inv_ok {a:Nat} (h:a % P ≠ 0):a * a ^ (P - 2) % P = 1:=by
 have h1:=fermat P_prime (a:=a) (fun hd=>h (Nat.mod_eq_zero_of_dvd hd))
 rw [← Nat.pow_succ',show (P - 2).succ = P - 1 by have:=P_two;omega]
 exact h1
theorem no_zero {a b:Nat} (h:a * b % P = 0):a % P = 0 ∨ b % P = 0:=by
 rcases P_prime.euclid (Nat.dvd_of_mod_eq_zero h) with h1 | h1
 ·exact .inl (Nat.mod_eq_zero_of_dvd h1)
 ·exact .inr (Nat.mod_eq_zero_of_dvd h1)
theorem same_square' {x y:Nat} (hle:y ≤ x) (h:x * x % P = y * y % P):x % P = y % P ∨ (x + y) % P = 0:=by
 have h1:=Nat.sub_mod_eq_zero_of_mod_eq h
 rw [Nat.mul_self_sub_mul_self_eq] at h1
 rcases no_zero h1 with h2 | h2
 ·exact .inr h2
 ·left
  obtain ⟨c,hc⟩:=Nat.dvd_of_mod_eq_zero h2
  rw [show x = y + P * c by omega,Nat.add_mul_mod_self_left]
theorem same_square {x y:Nat} (h:x * x % P = y * y % P):x % P = y % P ∨ (x + y) % P = 0:=by
 rcases Nat.le_total y x with h1 | h1
 ·exact same_square' h1 h
 ·rcases same_square' h1 h.symm with h2 | h2
  ·exact .inl h2.symm
  ·exact .inr (by rw [Nat.add_comm];exact h2)
def Q4:Nat:=(P - 1) / 4
def Q8:Nat:=(P + 3) / 8
theorem P_four:P = 4 * Q4 + 1:=by decide +kernel
theorem Q8_two:2 * Q8 = Q4 + 1:=by decide +kernel
def im:Nat:=19681161376707505956807079304988542015446066515923890162744021073123829784752
theorem im_pow:2 ^ Q4 % P = im:=pm_ok 255 (by decide +kernel) (by decide +kernel)
theorem im_square:im * im % P = P - 1:=by decide +kernel
theorem quarter {a:Nat} (h:a % P ≠ 0):(a * a) ^ Q4 % P = 1 ∨ (a * a) ^ Q4 % P = P - 1:=by
 have hp:=P_two
 have h1:=fermat P_prime (a:=a) (fun hd=>h (Nat.mod_eq_zero_of_dvd hd))
 have e:((a * a) ^ Q4) * ((a * a) ^ Q4) = a ^ (P - 1):=by
  rw [← Nat.pow_two a,← Nat.pow_mul,← Nat.pow_add,show 2 * Q4 + 2 * Q4 = P - 1 by have:=P_four;omega]
 have h2:((a * a) ^ Q4) * ((a * a) ^ Q4) % P = 1 * 1 % P:=by rw [e,h1,Nat.mod_eq_of_lt (by omega)]
 rcases same_square h2 with h3 | h3
 ·left;rw [h3,Nat.mod_eq_of_lt (by omega)]
 ·right
  have hl:=Nat.mod_lt ((a * a) ^ Q4) (show 0 < P by omega)
  rw [Nat.add_mod,Nat.mod_eq_of_lt (show 1 < P by omega)] at h3
  rcases Nat.lt_or_ge ((a * a) ^ Q4 % P + 1) P with h4 | h4
  ·rw [Nat.mod_eq_of_lt h4] at h3;omega
  ·omega
theorem first_root (s:Nat):(s ^ Q8) * (s ^ Q8) % P = s * s ^ Q4 % P:=by
 rw [← Nat.pow_add,show Q8 + Q8 = Q4 + 1 by have:=Q8_two;omega,Nat.pow_succ']
theorem root_ok {a:Nat}:(((a * a) ^ Q8) * ((a * a) ^ Q8) % P = a * a % P) ∨ (((a * a) ^ Q8 * im) * ((a * a) ^ Q8 * im) % P = a * a % P):=by
 have hp:=P_two
 by_cases h0:a % P = 0
 ·left
  have hz:a * a % P = 0:=by rw [Nat.mul_mod,h0,Nat.zero_mul,Nat.zero_mod]
  rw [first_root,Nat.mul_mod,hz,Nat.zero_mul,Nat.zero_mod]
 ·rcases quarter h0 with h1 | h1
  ·left
   rw [first_root,Nat.mul_mod,h1,Nat.mul_one,Nat.mod_mod]
  ·right
   have e:(a * a) ^ Q8 * im * ((a * a) ^ Q8 * im) = ((a * a) ^ Q8 * (a * a) ^ Q8) * (im * im):=by
    rw [Nat.mul_mul_mul_comm]
   have hm:(P - 1) % P = P - 1:=Nat.mod_eq_of_lt (by omega)
   have hX:a * a * (a * a) ^ Q4 % P = a * a * (P - 1) % P:=by rw [Nat.mul_mod,h1,Nat.mul_mod (a * a) (P - 1),hm]
   have e2:(P - 1) * (P - 1) % P = 1:=by decide +kernel
   have e3:a * a * (P - 1) % P * (P - 1) % P = a * a % P:=by
    rw [Nat.mod_mul_mod,Nat.mul_assoc (a * a),Nat.mul_mod,e2,Nat.mul_one,Nat.mod_mod]
   rw [e,Nat.mul_mod,first_root,im_square,hX]
   exact e3
theorem P_odd:P % 2 = 1:=by decide +kernel
theorem even_root_unique {r s:Nat} (hr:r < P) (hs:s < P) (er:r % 2 = 0) (es:s % 2 = 0) (h:r * r % P = s * s % P):r = s:=by
 have ho:=P_odd
 rcases same_square h with h1 | h1
 ·rwa [Nat.mod_eq_of_lt hr,Nat.mod_eq_of_lt hs] at h1
 ·rcases Nat.lt_or_ge (r + s) P with h2 | h2
  ·rw [Nat.mod_eq_of_lt h2] at h1;omega
  ·have h3:(r + s) % P = r + s - P:=by rw [Nat.mod_eq_sub_mod h2,Nat.mod_eq_of_lt (by omega)]
   omega
def evn (r:Nat):Nat:=if r % 2 = 1 then P - r else r
theorem evn_ok {r:Nat} (hr:r < P):evn r < P ∧ evn r % 2 = 0 ∧ evn r * evn r % P = r * r % P:=by
 have ho:=P_odd
 unfold evn
 by_cases h:r % 2 = 1
 ·rw [if_pos h]
  refine ⟨by omega,by omega,?_⟩
  have e:(P - r) * (P - r) + P * (2 * r) = r * r + P * P:=by
   obtain ⟨t,ht⟩:∃ t,P = t + r:=⟨P - r,by omega⟩
   rw [ht,Nat.add_sub_cancel]
   simp only [Nat.add_mul,Nat.mul_add,Nat.two_mul]
   rw [Nat.mul_comm r t]
   omega
  have e2:=congrArg (· % P) e
  simp only [Nat.add_mul_mod_self_left] at e2
  exact e2
 ·rw [if_neg h]
  exact ⟨hr,by omega,rfl⟩
def rt (a:Nat):Nat × Bool :=
 if a ^ Q8 % P * (a ^ Q8 % P) % P = a % P then (evn (a ^ Q8 % P),true)
 else if a ^ Q8 % P * im % P * (a ^ Q8 % P * im % P) % P = a % P then (evn (a ^ Q8 % P * im % P),true)
 else (0,false)
theorem rt_true {a:Nat} (h:(rt a).2 = true):(rt a).1 < P ∧ (rt a).1 % 2 = 0 ∧ (rt a).1 * (rt a).1 % P = a % P:=by
 have hp:0 < P:=by have:=P_two;omega
 unfold rt at h ⊢
 by_cases h1:a ^ Q8 % P * (a ^ Q8 % P) % P = a % P
 ·rw [if_pos h1]
  obtain ⟨k1,k2,k3⟩:=evn_ok (Nat.mod_lt (a ^ Q8) hp)
  exact ⟨k1,k2,k3.trans h1⟩
 ·rw [if_neg h1] at h ⊢
  by_cases h2:a ^ Q8 % P * im % P * (a ^ Q8 % P * im % P) % P = a % P
  ·rw [if_pos h2]
   obtain ⟨k1,k2,k3⟩:=evn_ok (Nat.mod_lt (a ^ Q8 % P * im) hp)
   exact ⟨k1,k2,k3.trans h2⟩
  ·rw [if_neg h2] at h;cases h
theorem rt_square (x:Nat) {a:Nat} (h:x * x % P = a % P):(rt a).2 = true:=by
 have e:a ^ Q8 % P = (x * x) ^ Q8 % P:=by rw [Nat.pow_mod,← h,← Nat.pow_mod]
 unfold rt
 rw [e]
 rcases root_ok (a:=x) with h1 | h1
 ·rw [if_pos (by rw [← Nat.mul_mod,h1,h])]
 ·by_cases h2:(x * x) ^ Q8 % P * ((x * x) ^ Q8 % P) % P = a % P
  ·rw [if_pos h2]
  ·have ei:(x * x) ^ Q8 % P * im % P = (x * x) ^ Q8 * im % P:=by rw [Nat.mod_mul_mod]
   rw [if_neg h2,if_pos (by rw [ei,← Nat.mul_mod,h1,h])]
theorem rt_none {a:Nat} (h:(rt a).2 = false):(rt a).1 = 0 ∧ ∀ x,x * x % P ≠ a % P:=by
 refine ⟨?_,fun x hx=>by rw [rt_square x hx] at h;cases h⟩
 unfold rt at h ⊢
 split at h
 ·cases h
 ·split at h
  ·cases h
  ·rename_i h1 h2;rw [if_neg h1,if_neg h2]
theorem rt_only {a r:Nat} (hr:r < P) (he:r % 2 = 0) (h:r * r % P = a % P):rt a = (r,true):=by
 have h1:=rt_square r h
 obtain ⟨k1,k2,k3⟩:=rt_true h1
 exact Prod.ext (even_root_unique k1 hr k2 he (k3.trans h.symm)) h1
theorem ell1:Pr 2551 :=
 pockB (q:=17) (s:=5) (m:=150) (k:=510) (a:=2) (x:=2089) (y:=1501) 12 (of_trial (n:=17) (by decide +kernel)) (of_trial (n:=5) (by decide +kernel)) (by decide +kernel) (by decide +kernel) (by decide +kernel) (by decide +kernel) (by decide +kernel) (by decide +kernel) (by decide +kernel) (by decide +kernel) (by decide +kernel) (by decide +kernel) (by decide +kernel)
theorem ell2:Pr 1224481 :=
 pockA (q:=2551) (m:=480) (a:=2) (x:=921659) 21 ell1 (by decide +kernel) (by decide +kernel) (by decide +kernel) (by decide +kernel) (by decide +kernel) (by decide +kernel) (by decide +kernel)
theorem ell3:Pr 3797 :=
 pockA (q:=73) (m:=52) (a:=2) (x:=3565) 12 (of_trial (n:=73) (by decide +kernel)) (by decide +kernel) (by decide +kernel) (by decide +kernel) (by decide +kernel) (by decide +kernel) (by decide +kernel) (by decide +kernel)
theorem ell4:Pr 531581 :=
 pockA (q:=3797) (m:=140) (a:=2) (x:=32301) 20 ell3 (by decide +kernel) (by decide +kernel) (by decide +kernel) (by decide +kernel) (by decide +kernel) (by decide +kernel) (by decide +kernel)
theorem ell5:Pr 1257559732178653 :=
 pockB (q:=1224481) (s:=531581) (m:=1027014492) (k:=2365697292) (a:=2) (x:=1252739704402215) (y:=1139842034583224) 51 ell2 ell4 (by decide +kernel) (by decide +kernel) (by decide +kernel) (by decide +kernel) (by decide +kernel) (by decide +kernel) (by decide +kernel) (by decide +kernel) (by decide +kernel) (by decide +kernel) (by decide +kernel)
theorem ell6:Pr 4434155615661930479 :=
 pockA (q:=1257559732178653) (m:=3526) (a:=2) (x:=415787812636281767) 62 ell5 (by decide +kernel) (by decide +kernel) (by decide +kernel) (by decide +kernel) (by decide +kernel) (by decide +kernel) (by decide +kernel)
theorem ell7:Pr 172054593956031949258510691 :=
 pockA (q:=4434155615661930479) (m:=38802110) (a:=2) (x:=81982237619807054769897707) 88 ell6 (by decide +kernel) (by decide +kernel) (by decide +kernel) (by decide +kernel) (by decide +kernel) (by decide +kernel) (by decide +kernel)
theorem ell8:Pr 19757330305831588566944191468367130476339 :=
 pockA (q:=172054593956031949258510691) (m:=114831751082918) (a:=2) (x:=9148758478138211201771971577098600188172) 134 ell7 (by decide +kernel) (by decide +kernel) (by decide +kernel) (by decide +kernel) (by decide +kernel) (by decide +kernel) (by decide +kernel)
theorem ell9:Pr 276602624281642239937218680557139826668747 :=
 pockA (q:=19757330305831588566944191468367130476339) (m:=14) (a:=2) (x:=16384) 138 ell8 (by decide +kernel) (by decide +kernel) (by decide +kernel) (by decide +kernel) (by decide +kernel) (by decide +kernel) (by decide +kernel)
theorem primeL:Pr 7237005577332262213973186563042994240857116359379907606001950938285454250989 :=
 pockA (q:=276602624281642239937218680557139826668747) (m:=26163907866482859529727157400808004) (a:=2) (x:=2975531125133123119648879457563281269120703404158613135195788908093573672641) 253 ell9 (by decide +kernel) (by decide +kernel) (by decide +kernel) (by decide +kernel) (by decide +kernel) (by decide +kernel) (by decide +kernel)
end Go.Proofs.YtmjimilhomabfaaGreatDoor.F
namespace Go.Proofs.YtmjimilhomabfaaGreatDoor.E
set_option linter.unusedVariables false
def On {n:Nat} (d x y:Fin (n + 1)):Prop:=y ^ 2 - x ^ 2 = 1 + d * x ^ 2 * y ^ 2
theorem closed {n:Nat} {x1 y1 x2 y2 d:Fin (n + 1)} (h1:On d x1 y1) (h2:On d x2 y2) :
  (y1 * y2 + x1 * x2) ^ 2 * (1 + d * x1 * x2 * y1 * y2) ^ 2 - (x1 * y2 + x2 * y1) ^ 2 * (1 - d * x1 * x2 * y1 * y2) ^ 2 = (1 + d * x1 * x2 * y1 * y2) ^ 2 * (1 - d * x1 * x2 * y1 * y2) ^ 2 + d * (x1 * y2 + x2 * y1) ^ 2 * (y1 * y2 + x1 * x2) ^ 2:=by
 unfold On at h1 h2
 grind
set_option maxHeartbeats 4000000 in
theorem brackets_x {n:Nat} {x1 y1 x2 y2 x3 y3 d:Fin (n + 1)} (h1:On d x1 y1) (h2:On d x2 y2) (h3:On d x3 y3) :
  (((x1 * y2 + x2 * y1) * (1 - d * x1 * x2 * y1 * y2) * y3 + x3 * (y1 * y2 + x1 * x2) * (1 + d * x1 * x2 * y1 * y2)) * ((1 + d * x2 * x3 * y2 * y3) * (1 - d * x2 * x3 * y2 * y3) + d * (x2 * y3 + x3 * y2) * (y2 * y3 + x2 * x3) * x1 * y1))
  = ((x1 * (y2 * y3 + x2 * x3) * (1 + d * x2 * x3 * y2 * y3) + y1 * (x2 * y3 + x3 * y2) * (1 - d * x2 * x3 * y2 * y3)) * ((1 + d * x1 * x2 * y1 * y2) * (1 - d * x1 * x2 * y1 * y2) + d * (x1 * y2 + x2 * y1) * (y1 * y2 + x1 * x2) * x3 * y3)):=by
 unfold On at h1 h2 h3
 grind
set_option maxHeartbeats 4000000 in
theorem brackets_y {n:Nat} {x1 y1 x2 y2 x3 y3 d:Fin (n + 1)} (h1:On d x1 y1) (h2:On d x2 y2) (h3:On d x3 y3) :
  (((y1 * y2 + x1 * x2) * (1 + d * x1 * x2 * y1 * y2) * y3 + (x1 * y2 + x2 * y1) * (1 - d * x1 * x2 * y1 * y2) * x3) * ((1 + d * x2 * x3 * y2 * y3) * (1 - d * x2 * x3 * y2 * y3) - d * (x2 * y3 + x3 * y2) * (y2 * y3 + x2 * x3) * x1 * y1))
  = ((y1 * (y2 * y3 + x2 * x3) * (1 + d * x2 * x3 * y2 * y3) + x1 * (x2 * y3 + x3 * y2) * (1 - d * x2 * x3 * y2 * y3)) * ((1 + d * x1 * x2 * y1 * y2) * (1 - d * x1 * x2 * y1 * y2) - d * (x1 * y2 + x2 * y1) * (y1 * y2 + x1 * x2) * x3 * y3)):=by
 unfold On at h1 h2 h3
 grind
theorem quot {n:Nat} {u d v1 v2 b1 b2:Fin (n + 1)} (k:u ^ 2 = d * v1 ^ 2 * v2 ^ 2) (h1:v1 * b1 = 1) (h2:v2 * b2 = 1):(u * b1 * b2) * (u * b1 * b2) = d:=by
 have e1:u * b1 * b2 * (u * b1 * b2) = d * (v1 * b1) ^ 2 * (v2 * b2) ^ 2:=by grind
 rw [e1,h1,h2]
 grind
theorem complete {n:Nat} {i d x1 y1 x2 y2 e:Fin (n + 1)} (hi:i * i = -1) (hinv:∀ a:Fin (n + 1),a ≠ 0 → ∃ b,a * b = 1) (hd:∀ t:Fin (n + 1),t * t ≠ d) (h20:∃ b:Fin (n + 1),2 * b = 1) (h10:(1:Fin (n + 1)) ≠ 0) (he:e * e = 1)
  (h1:On d x1 y1) (h2:On d x2 y2) (h:d * x1 * x2 * y1 * y2 = e):False:=by
 unfold On at h1 h2
 have hx:x1 * y1 ≠ 0:=by
  intro h0
  apply h10
  grind
 obtain ⟨b1,hb1⟩:=hinv _ hx
 have k1:(y1 + i * e * x1) ^ 2 = d * (x1 * y1) ^ 2 * (y2 + i * x2) ^ 2:=by grind
 have k2:(y1 - i * e * x1) ^ 2 = d * (x1 * y1) ^ 2 * (y2 - i * x2) ^ 2:=by grind
 by_cases z1:y2 + i * x2 = 0
 ·by_cases z2:y2 - i * x2 = 0
  ·obtain ⟨b,hb⟩:=h20
   apply h10
   have hy:y2 = 0:=by grind
   grind
  ·obtain ⟨b2,hb2⟩:=hinv _ z2
   exact hd _ (quot k2 hb1 hb2)
 ·obtain ⟨b2,hb2⟩:=hinv _ z1
  exact hd _ (quot k1 hb1 hb2)
theorem pigeon:∀ (n m:Nat) (f:Nat → Nat),(∀ i,i < m → f i < n) → (∀ i j,i < m → j < m → f i = f j → i = j) → m ≤ n
 | 0,m,f,hb,_=>by
  rcases Nat.eq_zero_or_pos m with h | h
  ·omega
  ·exact absurd (hb 0 h) (by omega)
 | n + 1,0,f,_,_=>by omega
 | n + 1,m + 1,f,hb,hi=>by
  -- the last one's place is filled by the greatest place's one
  have h:=pigeon n m (fun i=>if f i = n then f m else f i) (fun i hm=>by
   have h1:=hb i (by omega)
   have h2:=hb m (by omega)
   by_cases h3:f i = n
   ·simp only [h3,if_pos]
    have h4:f m ≠ n:=fun h5=>by have:=hi i m (by omega) (by omega) (h3.trans h5.symm);omega
    omega
   ·simp only [h3,if_false]
    omega) (fun i j h1 h2 h3=>by
   by_cases a:f i = n
   ·by_cases b:f j = n
    ·exact hi i j (by omega) (by omega) (a.trans b.symm)
    ·simp only [a,b,if_pos,if_false] at h3
     have:=hi m j (by omega) (by omega) h3;omega
   ·by_cases b:f j = n
    ·simp only [a,b,if_pos,if_false] at h3
     have:=hi i m (by omega) (by omega) h3;omega
    ·simp only [a,b,if_false] at h3
     exact hi i j (by omega) (by omega) h3)
  omega
def Q:Nat:=57896044618658097711785492504343953926634992332820282019728792003956564819948
abbrev Z:Type:=Fin (Q + 1)
theorem Q_one:Q + 1 = F.P:=by decide +kernel
def dd:Z:=⟨37095705934669439343138083508754565189542113879843219016388785533085940283555,by decide +kernel⟩
def ii:Z:=⟨19681161376707505956807079304988542015446066515923890162744021073123829784752,by decide +kernel⟩
theorem ii_square:ii * ii = -1:=by decide +kernel
theorem one_ne:(1:Z) ≠ 0:=by decide +kernel
theorem half:∃ b:Z,2 * b = 1:=⟨⟨28948022309329048855892746252171976963317496166410141009864396001978282409975,by decide +kernel⟩,by decide +kernel⟩
theorem Z_inv (a:Z) (h:a ≠ 0):∃ b:Z,a * b = 1:=by
 have h1:a.val % F.P ≠ 0:=by
  rw [← Q_one,Nat.mod_eq_of_lt a.isLt]
  intro h0
  exact h (Fin.ext h0)
 have h2:=F.inv_ok h1
 rw [← Q_one] at h2
 refine ⟨⟨a.val ^ (Q + 1 - 2) % (Q + 1),Nat.mod_lt _ (Nat.succ_pos _)⟩,Fin.ext ?_⟩
 rw [Fin.val_mul]
 show a.val * (a.val ^ (Q + 1 - 2) % (Q + 1)) % (Q + 1) = 1 % (Q + 1)
 rw [Nat.mul_mod_mod,h2]
 decide +kernel
theorem dd_pow:dd.val ^ (2 * F.Q4) % F.P = F.P - 1:=F.pm_ok 255 (by decide +kernel) (by decide +kernel)
theorem dd_square (t:Z):t * t ≠ dd:=by
 intro h
 have hv:t.val * t.val % F.P = dd.val:=by
  have:=congrArg Fin.val h
  rw [Fin.val_mul] at this
  rw [← Q_one]
  exact this
 have h1:=dd_pow
 rw [← hv,← Nat.pow_mod,← Nat.pow_two,← Nat.pow_mul] at h1
 by_cases h0:F.P ∣ t.val
 ·rw [Nat.mod_eq_zero_of_dvd (Nat.dvd_trans h0 ⟨t.val ^ (2 * (2 * F.Q4) - 1),by rw [← Nat.pow_succ',show (2 * (2 * F.Q4) - 1).succ = 2 * (2 * F.Q4) by have:=F.P_four;have:=F.P_two;omega]⟩)] at h1
  have:=F.P_two;omega
 ·have h2:=F.fermat F.P_prime h0
  rw [show F.P - 1 = 2 * (2 * F.Q4) by have:=F.P_four;omega] at h2
  rw [h2] at h1
  have:=F.P_two;omega
theorem divisors {x1 y1 x2 y2:Z} (h1:On dd x1 y1) (h2:On dd x2 y2):1 + dd * x1 * x2 * y1 * y2 ≠ 0 ∧ 1 - dd * x1 * x2 * y1 * y2 ≠ 0:=by
 refine ⟨fun h=>?_,fun h=>?_⟩
 ·exact complete (e:=-1) ii_square Z_inv dd_square half one_ne (by decide +kernel) h1 h2 (by grind)
 ·exact complete (e:=1) ii_square Z_inv dd_square half one_ne (by decide +kernel) h1 h2 (by grind)
def iv (a:Z):Z:=⟨a.val ^ (Q + 1 - 2) % (Q + 1),Nat.mod_lt _ (Nat.succ_pos _)⟩
theorem iv_ok {a:Z} (h:a ≠ 0):a * iv a = 1:=by
 have h1:a.val % F.P ≠ 0:=by
  rw [← Q_one,Nat.mod_eq_of_lt a.isLt]
  intro h0
  exact h (Fin.ext h0)
 have h2:=F.inv_ok h1
 rw [← Q_one] at h2
 refine Fin.ext ?_
 rw [Fin.val_mul]
 show a.val * (a.val ^ (Q + 1 - 2) % (Q + 1)) % (Q + 1) = 1 % (Q + 1)
 rw [Nat.mul_mod_mod,h2]
 decide +kernel
def ax (x1 y1 x2 y2:Z):Z:=(x1 * y2 + x2 * y1) * iv (1 + dd * x1 * x2 * y1 * y2)
def ay (x1 y1 x2 y2:Z):Z:=(y1 * y2 + x1 * x2) * iv (1 - dd * x1 * x2 * y1 * y2)
theorem divided {n:Nat} {nx ny A B u v d:Fin (n + 1)} (hA:A * u = 1) (hB:B * v = 1) (h:ny ^ 2 * A ^ 2 - nx ^ 2 * B ^ 2 = A ^ 2 * B ^ 2 + d * nx ^ 2 * ny ^ 2) :
  (ny * v) ^ 2 - (nx * u) ^ 2 = 1 + d * (nx * u) ^ 2 * (ny * v) ^ 2:=by
 have e1:(ny * v) ^ 2 * (A * u) ^ 2 - (nx * u) ^ 2 * (B * v) ^ 2 = (A * u) ^ 2 * (B * v) ^ 2 + d * (nx * u) ^ 2 * (ny * v) ^ 2:=by
  have:=congrArg (fun t=>t * (u ^ 2 * v ^ 2)) h
  grind
 rw [hA,hB] at e1
 grind
theorem on_add {x1 y1 x2 y2:Z} (h1:On dd x1 y1) (h2:On dd x2 y2):On dd (ax x1 y1 x2 y2) (ay x1 y1 x2 y2):=by
 obtain ⟨k1,k2⟩:=divisors h1 h2
 exact divided (iv_ok k1) (iv_ok k2) (closed h1 h2)
theorem comm_x (x1 y1 x2 y2:Z):ax x1 y1 x2 y2 = ax x2 y2 x1 y1:=by
 unfold ax
 rw [show x1 * y2 + x2 * y1 = x2 * y1 + x1 * y2 by grind,show dd * x1 * x2 * y1 * y2 = dd * x2 * x1 * y2 * y1 by grind]
theorem comm_y (x1 y1 x2 y2:Z):ay x1 y1 x2 y2 = ay x2 y2 x1 y1:=by
 unfold ay
 rw [show y1 * y2 + x1 * x2 = y2 * y1 + x2 * x1 by grind,show dd * x1 * x2 * y1 * y2 = dd * x2 * x1 * y2 * y1 by grind]
theorem same_part {n:Nat} {u v N1 D1 N2 D2 j1 j2:Fin (n + 1)} (h1:u * D1 = N1) (h2:v * D2 = N2) (h:N1 * D2 = N2 * D1) (k1:D1 * j1 = 1) (k2:D2 * j2 = 1):u = v:=by
 have e:u * (D1 * j1) * (D2 * j2) = v * (D2 * j2) * (D1 * j1):=by
  have:=congrArg (fun t=>t * (j1 * j2)) h
  subst h1;subst h2
  grind
 rw [k1,k2] at e
 grind
theorem part_x {n:Nat} {nx ny A B u v w x3 y3 d:Fin (n + 1)} (hA:A * u = 1) (hB:B * v = 1) (hw:(1 + d * (nx * u) * x3 * (ny * v) * y3) * w = 1) :
  ((nx * u) * y3 + x3 * (ny * v)) * w * (A * B + d * nx * ny * x3 * y3) = nx * B * y3 + x3 * ny * A ∧ (A * B + d * nx * ny * x3 * y3) * (u * v * w) = 1:=by
 have e:(1 + d * (nx * u) * x3 * (ny * v) * y3) * (A * B) = A * B + d * nx * ny * x3 * y3:=by
  have:(1 + d * (nx * u) * x3 * (ny * v) * y3) * (A * B) = A * B + d * nx * ny * x3 * y3 * (A * u) * (B * v):=by grind
  rw [hA,hB] at this
  grind
 rw [← e]
 refine ⟨?_,?_⟩
 ·have:((nx * u) * y3 + x3 * (ny * v)) * w * ((1 + d * (nx * u) * x3 * (ny * v) * y3) * (A * B)) = (nx * (A * u) * B * y3 + x3 * ny * (B * v) * A) * ((1 + d * (nx * u) * x3 * (ny * v) * y3) * w):=by grind
  rw [this,hw,hA,hB]
  grind
 ·have:(1 + d * (nx * u) * x3 * (ny * v) * y3) * (A * B) * (u * v * w) = (A * u) * (B * v) * ((1 + d * (nx * u) * x3 * (ny * v) * y3) * w):=by grind
  rw [this,hw,hA,hB]
  grind
theorem part_y {n:Nat} {nx ny A B u v w x3 y3 d:Fin (n + 1)} (hA:A * u = 1) (hB:B * v = 1) (hw:(1 - d * (nx * u) * x3 * (ny * v) * y3) * w = 1) :
  ((ny * v) * y3 + (nx * u) * x3) * w * (A * B - d * nx * ny * x3 * y3) = ny * A * y3 + nx * B * x3 ∧ (A * B - d * nx * ny * x3 * y3) * (u * v * w) = 1:=by
 have e:(1 - d * (nx * u) * x3 * (ny * v) * y3) * (A * B) = A * B - d * nx * ny * x3 * y3:=by
  have:(1 - d * (nx * u) * x3 * (ny * v) * y3) * (A * B) = A * B - d * nx * ny * x3 * y3 * (A * u) * (B * v):=by grind
  rw [hA,hB] at this
  grind
 rw [← e]
 refine ⟨?_,?_⟩
 ·have:((ny * v) * y3 + (nx * u) * x3) * w * ((1 - d * (nx * u) * x3 * (ny * v) * y3) * (A * B)) = (ny * (B * v) * A * y3 + nx * (A * u) * B * x3) * ((1 - d * (nx * u) * x3 * (ny * v) * y3) * w):=by grind
  rw [this,hw,hA,hB]
  grind
 ·have:(1 - d * (nx * u) * x3 * (ny * v) * y3) * (A * B) * (u * v * w) = (A * u) * (B * v) * ((1 - d * (nx * u) * x3 * (ny * v) * y3) * w):=by grind
  rw [this,hw,hA,hB]
  grind
theorem assoc_x {x1 y1 x2 y2 x3 y3:Z} (h1:On dd x1 y1) (h2:On dd x2 y2) (h3:On dd x3 y3) :
  ax (ax x1 y1 x2 y2) (ay x1 y1 x2 y2) x3 y3 = ax x1 y1 (ax x2 y2 x3 y3) (ay x2 y2 x3 y3):=by
 rw [comm_x x1 y1 (ax x2 y2 x3 y3)]
 obtain ⟨a1,a2⟩:=divisors h1 h2
 obtain ⟨b1,b2⟩:=divisors h2 h3
 obtain ⟨c1,_⟩:=divisors (on_add h1 h2) h3
 obtain ⟨d1,_⟩:=divisors (on_add h2 h3) h1
 have p1:=part_x (iv_ok a1) (iv_ok a2) (show (1 + dd * ((x1 * y2 + x2 * y1) * iv (1 + dd * x1 * x2 * y1 * y2)) * x3 * ((y1 * y2 + x1 * x2) * iv (1 - dd * x1 * x2 * y1 * y2)) * y3) * iv (1 + dd * ax x1 y1 x2 y2 * x3 * ay x1 y1 x2 y2 * y3) = 1 from iv_ok c1)
 have p2:=part_x (iv_ok b1) (iv_ok b2) (show (1 + dd * ((x2 * y3 + x3 * y2) * iv (1 + dd * x2 * x3 * y2 * y3)) * x1 * ((y2 * y3 + x2 * x3) * iv (1 - dd * x2 * x3 * y2 * y3)) * y1) * iv (1 + dd * ax x2 y2 x3 y3 * x1 * ay x2 y2 x3 y3 * y1) = 1 from iv_ok d1)
 refine same_part p1.1 p2.1 ?_ p1.2 p2.2
 have:=brackets_x h1 h2 h3
 grind
theorem assoc_y {x1 y1 x2 y2 x3 y3:Z} (h1:On dd x1 y1) (h2:On dd x2 y2) (h3:On dd x3 y3) :
  ay (ax x1 y1 x2 y2) (ay x1 y1 x2 y2) x3 y3 = ay x1 y1 (ax x2 y2 x3 y3) (ay x2 y2 x3 y3):=by
 rw [comm_y x1 y1 (ax x2 y2 x3 y3)]
 obtain ⟨a1,a2⟩:=divisors h1 h2
 obtain ⟨b1,b2⟩:=divisors h2 h3
 obtain ⟨_,c1⟩:=divisors (on_add h1 h2) h3
 obtain ⟨_,d1⟩:=divisors (on_add h2 h3) h1
 have p1:=part_y (iv_ok a1) (iv_ok a2) (show (1 - dd * ((x1 * y2 + x2 * y1) * iv (1 + dd * x1 * x2 * y1 * y2)) * x3 * ((y1 * y2 + x1 * x2) * iv (1 - dd * x1 * x2 * y1 * y2)) * y3) * iv (1 - dd * ax x1 y1 x2 y2 * x3 * ay x1 y1 x2 y2 * y3) = 1 from iv_ok c1)
 have p2:=part_y (iv_ok b1) (iv_ok b2) (show (1 - dd * ((x2 * y3 + x3 * y2) * iv (1 + dd * x2 * x3 * y2 * y3)) * x1 * ((y2 * y3 + x2 * x3) * iv (1 - dd * x2 * x3 * y2 * y3)) * y1) * iv (1 - dd * ax x2 y2 x3 y3 * x1 * ay x2 y2 x3 y3 * y1) = 1 from iv_ok d1)
 refine same_part p1.1 p2.1 ?_ p1.2 p2.2
 have:=brackets_y h1 h2 h3
 grind
theorem iv_one:iv 1 = 1:=by
 have:=iv_ok one_ne
 grind
theorem on_zero:On dd (0:Z) 1:=by unfold On;grind
theorem on_neg {x y:Z} (h:On dd x y):On dd (-x) y:=by unfold On at *;grind
theorem no_part {n:Nat} (d x y:Fin (n + 1)):1 + d * x * 0 * y * 1 = 1:=by grind
theorem no_part' {n:Nat} (d x y:Fin (n + 1)):1 - d * x * 0 * y * 1 = 1:=by grind
theorem zero_x (x y:Z):ax x y 0 1 = x:=by
 unfold ax
 rw [no_part,iv_one]
 grind
theorem zero_y (x y:Z):ay x y 0 1 = y:=by
 unfold ay
 rw [no_part',iv_one]
 grind
theorem neg_x (x y:Z):ax x y (-x) y = 0:=by
 unfold ax
 rw [show x * y + -x * y = 0 by grind]
 grind
theorem neg_y {x y:Z} (h:On dd x y):ay x y (-x) y = 1:=by
 have h2:=(divisors h (on_neg h)).2
 unfold ay
 have e:y * y + x * -x = 1 - dd * x * -x * y * y:=by unfold On at h;grind
 rw [e]
 exact iv_ok h2
structure Pt where
 x:Z
 y:Z
 on:On dd x y
theorem Pt.same {p q:Pt} (hx:p.x = q.x) (hy:p.y = q.y):p = q:=by
 obtain ⟨x,y,h⟩:=p
 obtain ⟨u,v,k⟩:=q
 simp only at hx hy
 subst hx hy
 rfl
def Pt.zero:Pt:=⟨0,1,on_zero⟩
def padd (p q:Pt):Pt:=⟨ax p.x p.y q.x q.y,ay p.x p.y q.x q.y,on_add p.on q.on⟩
def pneg (p:Pt):Pt:=⟨-p.x,p.y,on_neg p.on⟩
theorem padd_comm (p q:Pt):padd p q = padd q p:=Pt.same (comm_x _ _ _ _) (comm_y _ _ _ _)
theorem padd_assoc (p q r:Pt):padd (padd p q) r = padd p (padd q r):=Pt.same (assoc_x p.on q.on r.on) (assoc_y p.on q.on r.on)
theorem padd_zero (p:Pt):padd p .zero = p:=Pt.same (zero_x _ _) (zero_y _ _)
theorem zero_padd (p:Pt):padd .zero p = p:=by rw [padd_comm,padd_zero]
theorem padd_neg (p:Pt):padd p (pneg p) = .zero:=Pt.same (neg_x _ _) (neg_y p.on)
theorem cancel {p q r:Pt} (h:padd p q = padd p r):q = r:=by
 have:=congrArg (padd (pneg p)) h
 rwa [← padd_assoc,← padd_assoc,padd_comm (pneg p),padd_neg,zero_padd,zero_padd] at this
def pmul:Nat → Pt → Pt
 | 0,_=>.zero
 | k + 1,p=>padd (pmul k p) p
theorem pmul_add (a:Nat) (p:Pt):∀ b,pmul (a + b) p = padd (pmul a p) (pmul b p)
 | 0=>by rw [pmul,padd_zero];rfl
 | b + 1=>by rw [← Nat.add_assoc,pmul,pmul_add a p b,pmul,padd_assoc]
theorem pmul_mul (b:Nat) (p:Pt):∀ a,pmul (a * b) p = pmul a (pmul b p)
 | 0=>by rw [Nat.zero_mul,pmul,pmul]
 | a + 1=>by rw [Nat.add_mul,Nat.one_mul,pmul_add,pmul_mul b p a,pmul]
theorem pmul_one (p:Pt):pmul 1 p = p:=by rw [pmul,pmul,zero_padd]
theorem pmul_two (p:Pt):pmul 2 p = padd p p:=by rw [pmul,pmul_one]
theorem pmul_zero:∀ k,pmul k .zero = .zero
 | 0=>rfl
 | k + 1=>by rw [pmul,pmul_zero k,padd_zero]
theorem pmul_padd (p q:Pt):∀ k,pmul k (padd p q) = padd (pmul k p) (pmul k q)
 | 0=>by rw [pmul,pmul,pmul,padd_zero]
 | k + 1=>by
  rw [pmul,pmul_padd p q k,pmul,pmul,padd_assoc,padd_assoc,← padd_assoc (pmul k q),padd_comm (pmul k q) p,padd_assoc]
theorem ne_mul {a b:Z} (ha:a ≠ 0) (hb:b ≠ 0):a * b ≠ 0:=by
 intro h
 obtain ⟨c,hc⟩:=Z_inv a ha
 apply hb
 have:b = b * (a * c):=by rw [hc];grind
 rw [this,show b * (a * c) = (a * b) * c by grind,h]
 grind
structure Rep (p:Pt) (t:Z × Z × Z):Prop where
 nz:t.2.2 ≠ 0
 hx:t.1 = p.x * t.2.2
 hy:t.2.1 = p.y * t.2.2
def tadd (t s:Z × Z × Z):Z × Z × Z :=
 let a:=t.2.2 * s.2.2
 let b:=a * a
 let c:=t.1 * s.1
 let d:=t.2.1 * s.2.1
 let e:=dd * (c * d)
 (a * ((b - e) * (t.1 * s.2.1 + s.1 * t.2.1)),a * ((b + e) * (c + d)),(b - e) * (b + e))
theorem frac {n:Nat} {x1 y1 z1 x2 y2 z2 d u v:Fin (n + 1)} (hu:(1 + d * x1 * x2 * y1 * y2) * u = 1) (hv:(1 - d * x1 * x2 * y1 * y2) * v = 1) :
  z1 * z2 * (((z1 * z2) * (z1 * z2) - d * ((x1 * z1) * (x2 * z2) * ((y1 * z1) * (y2 * z2)))) * ((x1 * z1) * (y2 * z2) + (x2 * z2) * (y1 * z1))) = (x1 * y2 + x2 * y1) * u * (((z1 * z2) * (z1 * z2) - d * ((x1 * z1) * (x2 * z2) * ((y1 * z1) * (y2 * z2)))) * ((z1 * z2) * (z1 * z2) + d * ((x1 * z1) * (x2 * z2) * ((y1 * z1) * (y2 * z2))))) ∧
  z1 * z2 * (((z1 * z2) * (z1 * z2) + d * ((x1 * z1) * (x2 * z2) * ((y1 * z1) * (y2 * z2)))) * ((x1 * z1) * (x2 * z2) + (y1 * z1) * (y2 * z2))) = (y1 * y2 + x1 * x2) * v * (((z1 * z2) * (z1 * z2) - d * ((x1 * z1) * (x2 * z2) * ((y1 * z1) * (y2 * z2)))) * ((z1 * z2) * (z1 * z2) + d * ((x1 * z1) * (x2 * z2) * ((y1 * z1) * (y2 * z2))))):=by
 have e1:(z1 * z2) * (z1 * z2) + d * ((x1 * z1) * (x2 * z2) * ((y1 * z1) * (y2 * z2))) = (z1 * z2) * (z1 * z2) * (1 + d * x1 * x2 * y1 * y2):=by grind
 have e2:(z1 * z2) * (z1 * z2) - d * ((x1 * z1) * (x2 * z2) * ((y1 * z1) * (y2 * z2))) = (z1 * z2) * (z1 * z2) * (1 - d * x1 * x2 * y1 * y2):=by grind
 rw [e1,e2]
 generalize 1 + d * x1 * x2 * y1 * y2 = A at *
 generalize 1 - d * x1 * x2 * y1 * y2 = B at *
 constructor
 ·have:(x1 * y2 + x2 * y1) * u * ((z1 * z2) * (z1 * z2) * B * ((z1 * z2) * (z1 * z2) * A)) = (x1 * y2 + x2 * y1) * ((z1 * z2) * (z1 * z2) * B * ((z1 * z2) * (z1 * z2))) * (A * u):=by grind
  rw [this,hu]
  grind
 ·have:(y1 * y2 + x1 * x2) * v * ((z1 * z2) * (z1 * z2) * B * ((z1 * z2) * (z1 * z2) * A)) = (y1 * y2 + x1 * x2) * ((z1 * z2) * (z1 * z2) * A * ((z1 * z2) * (z1 * z2))) * (B * v):=by grind
  rw [this,hv]
  grind
theorem frac_nz {z1 z2 x1 y1 x2 y2:Z} (h1:z1 ≠ 0) (h2:z2 ≠ 0) (ha:1 + dd * x1 * x2 * y1 * y2 ≠ 0) (hb:1 - dd * x1 * x2 * y1 * y2 ≠ 0) :
  ((z1 * z2) * (z1 * z2) - dd * ((x1 * z1) * (x2 * z2) * ((y1 * z1) * (y2 * z2)))) * ((z1 * z2) * (z1 * z2) + dd * ((x1 * z1) * (x2 * z2) * ((y1 * z1) * (y2 * z2)))) ≠ 0:=by
 have hz:=ne_mul h1 h2
 have e1:(z1 * z2) * (z1 * z2) + dd * ((x1 * z1) * (x2 * z2) * ((y1 * z1) * (y2 * z2))) = (z1 * z2) * (z1 * z2) * (1 + dd * x1 * x2 * y1 * y2):=by generalize dd = d;grind
 have e2:(z1 * z2) * (z1 * z2) - dd * ((x1 * z1) * (x2 * z2) * ((y1 * z1) * (y2 * z2))) = (z1 * z2) * (z1 * z2) * (1 - dd * x1 * x2 * y1 * y2):=by generalize dd = d;grind
 rw [e1,e2]
 exact ne_mul (ne_mul (ne_mul hz hz) hb) (ne_mul (ne_mul hz hz) ha)
theorem Rep.add {p q:Pt} {t s:Z × Z × Z} (h:Rep p t) (k:Rep q s):Rep (padd p q) (tadd t s):=by
 obtain ⟨X1,Y1,z1⟩:=t
 obtain ⟨X2,Y2,z2⟩:=s
 obtain ⟨h0,hx,hy⟩:=h
 obtain ⟨k0,kx,ky⟩:=k
 simp only at h0 hx hy k0 kx ky
 subst hx hy kx ky
 obtain ⟨d1,d2⟩:=divisors p.on q.on
 obtain ⟨f1,f2⟩:=frac (z1:=z1) (z2:=z2) (iv_ok d1) (iv_ok d2)
 exact ⟨frac_nz h0 k0 d1 d2,f1,f2⟩
theorem Rep.zero:Rep .zero (0,1,1):=⟨one_ne,by show (0:Z) = 0 * 1;decide +kernel,by show (1:Z) = 1 * 1;decide +kernel⟩
theorem Rep.one (p:Pt):Rep p (p.x,p.y,1):=⟨one_ne,by show p.x = p.x * 1;grind,by show p.y = p.y * 1;grind⟩
def tmul:Nat → Nat → Z × Z × Z → Z × Z × Z
 | 0,_,_=>(0,1,1)
 | f + 1,k,t=>if k = 0 then (0,1,1) else if k % 2 = 1 then tadd (tmul f (k / 2) (tadd t t)) t else tmul f (k / 2) (tadd t t)
theorem Rep.mul:∀ (f k:Nat) {p:Pt} {t:Z × Z × Z},k < 2 ^ f → Rep p t → Rep (pmul k p) (tmul f k t)
 | 0,k,p,t,hk,h=>by
              obtain rfl:k = 0:=by omega
              exact Rep.zero
 | f + 1,k,p,t,hk,h=>by
  have ih:=Rep.mul f (k / 2) (by rw [Nat.pow_succ] at hk;omega) (h.add h)
  rw [← pmul_two,← pmul_mul] at ih
  unfold tmul
  by_cases h0:k = 0
  ·rw [if_pos h0,h0];exact Rep.zero
  ·rw [if_neg h0]
   by_cases h1:k % 2 = 1
   ·rw [if_pos h1]
    have:=ih.add h
    rwa [show padd (pmul (k / 2 * 2) p) p = pmul (k / 2 * 2 + 1) p from rfl,show k / 2 * 2 + 1 = k by omega] at this
   ·rw [if_neg h1]
    rwa [show k / 2 * 2 = k by omega] at ih
theorem Rep.is_zero {p:Pt} {t:Z × Z × Z} (h:Rep p t):p = .zero ↔ t.1 = 0 ∧ t.2.1 = t.2.2:=by
 constructor
 ·rintro rfl
  rw [h.hx,h.hy]
  exact ⟨by show (0:Z) * _ = 0;grind,by show (1:Z) * _ = _;grind⟩
 ·rintro ⟨h1,h2⟩
  obtain ⟨c,hc⟩:=Z_inv _ h.nz
  have hx:=h.hx
  have hy:=h.hy
  rw [h1] at hx
  rw [h2] at hy
  refine Pt.same ?_ ?_
  ·show p.x = 0
   have:p.x = p.x * (t.2.2 * c):=by rw [hc];grind
   rw [this,show p.x * (t.2.2 * c) = p.x * t.2.2 * c by grind,← hx];grind
  ·show p.y = 1
   have:p.y = p.y * (t.2.2 * c):=by rw [hc];grind
   rw [this,show p.y * (t.2.2 * c) = p.y * t.2.2 * c by grind,← hy,hc]
def L:Nat:=7237005577332262213973186563042994240857116359379907606001950938285454250989
theorem L_prime:F.Pr L:=F.primeL
def Bp:Pt:=⟨⟨15112221349535400772501151409588531511454012693041857206046113283949847762202,by decide +kernel⟩,⟨46316835694926478169428394003475163141307993866256225615783033603165251855960,by decide +kernel⟩,by unfold On;decide +kernel⟩
def Tp:Pt:=⟨⟨43496726750457979451437558183816721346016168361625936758514574428539776020131,by decide +kernel⟩,⟨55188659117513257062467267217118295137698188065244968500265048394206261417927,by decide +kernel⟩,by unfold On;decide +kernel⟩
theorem B_ne:Bp ≠ .zero:=fun h=>absurd (congrArg Pt.x h) (by decide +kernel)
theorem T_eight:pmul 8 Tp = .zero:=(Rep.mul 4 8 (by decide) (Rep.one Tp)).is_zero.2 (by decide +kernel)
theorem T_four:pmul 4 Tp ≠ .zero:=fun h=>absurd ((Rep.mul 3 4 (by decide) (Rep.one Tp)).is_zero.1 h) (by decide +kernel)
theorem B_order:pmul L Bp = .zero:=(Rep.mul 253 L (by decide +kernel) (Rep.one Bp)).is_zero.2 (by decide +kernel)
theorem kill {b:Nat} {p:Pt} (h:pmul b p = .zero) (a:Nat):pmul (a * b) p = .zero:=by rw [pmul_mul,h,pmul_zero]
theorem rest_zero {a b:Nat} {p:Pt} (h:pmul a p = .zero) (k:pmul (a + b) p = .zero):pmul b p = .zero:=by
 rw [pmul_add,h,zero_padd] at k
 exact k
theorem mul_gcd {p:Pt}:∀ (n x y:Nat),x ≤ n → pmul x p = .zero → pmul y p = .zero → pmul (Nat.gcd x y) p = .zero
 | 0,x,y,hn,hx,hy=>by
  obtain rfl:x = 0:=by omega
  rw [Nat.gcd_zero_left];exact hy
 | n + 1,x,y,hn,hx,hy=>by
  by_cases h0:x = 0
  ·subst h0;rw [Nat.gcd_zero_left];exact hy
  ·rw [Nat.gcd_rec]
   have hlt:=Nat.mod_lt y (Nat.pos_of_ne_zero h0)
   refine mul_gcd n (y % x) x (by omega) ?_ hx
   refine rest_zero (a:=y / x * x) (kill hx _) ?_
   rw [Nat.mul_comm,Nat.div_add_mod]
   exact hy
theorem same_mul {a b:Nat} {p:Pt} (hab:a ≤ b) (h:pmul a p = pmul b p):pmul (b - a) p = .zero:=by
 have e:pmul b p = padd (pmul a p) (pmul (b - a) p):=by rw [← pmul_add,show a + (b - a) = b by omega]
 rw [e] at h
 exact (cancel (p:=pmul a p) (by rw [padd_zero];exact h)).symm
theorem B_free {c:Nat} (hc:c < L) (h:pmul (8 * c) Bp = .zero):c = 0:=by
 rcases L_prime.gcd (8 * c) with h1 | h1
 ·have:=mul_gcd L L (8 * c) (Nat.le_refl _) B_order h
  rw [h1,pmul_one] at this
  exact absurd this B_ne
 ·rcases L_prime.euclid h1 with h2 | h2
  ·exact absurd (Nat.le_of_dvd (by decide) h2) (by decide +kernel)
  ·rcases Nat.eq_zero_or_pos c with h3 | h3
   ·exact h3
   ·exact absurd (Nat.le_of_dvd h3 h2) (by omega)
theorem T_free {c:Nat} (hc:c < 8) (h:pmul c Tp = .zero):c = 0:=by
 have h1:=mul_gcd 8 8 c (Nat.le_refl _) T_eight h
 have h2:∀ g:Nat,pmul g Tp = .zero → 4 % g = 0 → 0 < g → False:=fun g k m hg=>by
  have:=kill k (4 / g)
  rw [show 4 / g * g = 4 by have:=Nat.div_add_mod 4 g;rw [Nat.mul_comm] at this;omega] at this
  exact T_four this
 rcases (by omega:c = 0 ∨ c = 1 ∨ c = 2 ∨ c = 3 ∨ c = 4 ∨ c = 5 ∨ c = 6 ∨ c = 7) with rfl | rfl | rfl | rfl | rfl | rfl | rfl | rfl
 ·rfl
 all_goals exact absurd (h2 _ h1 (by decide) (by decide)) id
def hp (n:Nat):Pt:=padd (pmul (n % 8) Tp) (pmul (n / 8) Bp)
theorem hp_kill (n:Nat):pmul (8 * L) (hp n) = .zero:=by
 unfold hp
 rw [pmul_padd,← pmul_mul,← pmul_mul]
 rw [show 8 * L * (n % 8) = L * (n % 8) * 8 by rw [Nat.mul_assoc,Nat.mul_comm 8],show 8 * L * (n / 8) = 8 * (n / 8) * L by rw [Nat.mul_assoc,Nat.mul_comm L,Nat.mul_assoc]]
 rw [kill T_eight,kill B_order,padd_zero]
theorem hp_le {m n:Nat} (hn:n < 8 * L) (hmn:m / 8 ≤ n / 8) (h:hp m = hp n):m / 8 = n / 8:=by
 have h8:=congrArg (pmul 8) h
 unfold hp at h8
 rw [pmul_padd,pmul_padd,← pmul_mul,← pmul_mul,← pmul_mul,← pmul_mul,Nat.mul_comm 8 (m % 8),Nat.mul_comm 8 (n % 8),kill T_eight,kill T_eight,zero_padd,zero_padd] at h8
 have:=same_mul (Nat.mul_le_mul_left 8 hmn) h8
 rw [← Nat.mul_sub] at this
 have:=B_free (by omega) this
 omega
theorem hp_same {m n:Nat} (hm:m < 8 * L) (hn:n < 8 * L) (h:hp m = hp n):m = n:=by
 have hq:m / 8 = n / 8:=by
  rcases Nat.le_total (m / 8) (n / 8) with k | k
  ·exact hp_le hn k h
  ·exact (hp_le hm k h.symm).symm
 unfold hp at h
 rw [hq,padd_comm,padd_comm (pmul (n % 8) Tp)] at h
 have h2:=cancel h
 rcases Nat.le_total (m % 8) (n % 8) with k | k
 ·have:=T_free (by omega) (same_mul k h2);omega
 ·have:=T_free (by omega) (same_mul k h2.symm);omega
def place (p:Pt):Nat:=2 * p.y.val + p.x.val % 2
theorem place_lt (p:Pt):place p < 2 * (Q + 1):=by
 have:=p.y.isLt
 unfold place;omega
theorem no_zero {a b:Z} (h:a * b = 0):a = 0 ∨ b = 0:=by
 by_cases ha:a = 0
 ·exact .inl ha
 ·by_cases hb:b = 0
  ·exact .inr hb
  ·exact absurd h (ne_mul ha hb)
theorem nothing {n:Nat} (d:Fin (n + 1)):1 + d * (0 * 0) = 1:=by grind
theorem down_ne (y:Z):1 + dd * (y * y) ≠ 0:=by
 intro h
 by_cases hy:y = 0
 ·subst hy
  rw [nothing] at h
  exact one_ne h
 ·obtain ⟨c,hc⟩:=Z_inv y hy
  refine dd_square (ii * c) ?_
  have e1:ii * c * (ii * c) = ii * ii * (c * c):=by generalize ii = i;grind
  rw [e1,ii_square]
  generalize dd = d at *
  have e2:d * (y * y) = -1:=by grind
  have e3:d * (y * c) * (y * c) = -1 * (c * c):=by rw [← e2];grind
  rw [hc] at e3
  grind
theorem neg_val (a:Z) (h:a ≠ 0):(-a).val = Q + 1 - a.val:=by
 have h1:(-a + a:Z) = 0:=by grind
 have h2:=congrArg Fin.val h1
 rw [Fin.val_add] at h2
 have h3:((0:Z)).val = 0:=rfl
 rw [h3] at h2
 have l1:=(-a).isLt
 have l2:=a.isLt
 have l3:a.val ≠ 0:=fun e=>h (Fin.ext e)
 obtain ⟨c,hc⟩:=Nat.dvd_of_mod_eq_zero h2
 have:c = 1:=by
  rcases Nat.lt_or_ge c 1 with k | k
  ·obtain rfl:c = 0:=by omega
   rw [Nat.mul_zero] at hc;omega
  ·rcases Nat.lt_or_ge 1 c with k2 | k2
   ·have:=Nat.mul_le_mul_left (Q + 1) k2;omega
   ·omega
 subst this
 omega
theorem place_same {p q:Pt} (h:place p = place q):p = q:=by
 unfold place at h
 have hy:p.y = q.y:=Fin.ext (by omega)
 have hx:p.x.val % 2 = q.x.val % 2:=by omega
 have h1:=p.on
 have h2:=q.on
 unfold On at h1 h2
 rw [hy] at h1
 have hd:=down_ne q.y
 have hz:(p.x - q.x) * (p.x + q.x) * (1 + dd * (q.y * q.y)) = 0:=by
  generalize dd = d at *
  generalize q.y = y at *
  generalize p.x = u at *
  generalize q.x = v at *
  grind
 rcases no_zero hz with hz | hz
 ·rcases no_zero hz with hz | hz
  ·exact Pt.same (by grind) hy
  ·have e:p.x = -q.x:=by grind
   by_cases h0:q.x = 0
   ·exact Pt.same (by rw [e,h0];decide +kernel) hy
   ·have:=neg_val q.x h0
    rw [e,this] at hx
    have l:=q.x.isLt
    have ho:Q % 2 = 0:=by decide +kernel
    omega
 ·exact absurd hz hd
theorem too_many:¬ 2 * (8 * L) ≤ 2 * (Q + 1):=by decide +kernel
theorem all_zero (g:Pt):pmul (8 * L) g = .zero:=by
 by_cases h:pmul (8 * L) g = .zero
 ·exact h
 ·exfalso
  refine too_many (pigeon (2 * (Q + 1)) (2 * (8 * L)) (fun n=>place (if n < 8 * L then hp n else padd g (hp (n - 8 * L)))) (fun i hi=>place_lt _) (fun i j hi hj he=>?_))
  have he:=place_same he
  have hk:∀ m n,hp m = padd g (hp n) → False:=fun m n e=>by
   have:=congrArg (pmul (8 * L)) e
   rw [pmul_padd,hp_kill,hp_kill,padd_zero] at this
   exact h this.symm
  by_cases h1:i < 8 * L
  ·by_cases h2:j < 8 * L
   ·rw [if_pos h1,if_pos h2] at he
    exact hp_same h1 h2 he
   ·rw [if_pos h1,if_neg h2] at he
    exact absurd (hk _ _ he) id
  ·by_cases h2:j < 8 * L
   ·rw [if_neg h1,if_pos h2] at he
    exact absurd (hk _ _ he.symm) id
   ·rw [if_neg h1,if_neg h2] at he
    have:=hp_same (by omega) (by omega) (cancel he)
    omega
theorem down_ne' (y:Z):dd * (y * y) + 1 ≠ 0:=by
 have h:=down_ne y
 have e:dd * (y * y) + 1 = 1 + dd * (y * y):=by generalize dd = d;generalize y * y = t;grind
 rw [e];exact h
theorem quot_of {n:Nat} {x y d c:Fin (n + 1)} (hc:(d * (y * y) + 1) * c = 1) (h:y ^ 2 - x ^ 2 = 1 + d * x ^ 2 * y ^ 2):x * x = (y * y - 1) * c:=by
 have e:y * y - 1 = x * x * (d * (y * y) + 1):=by grind
 rw [e]
 have:x * x * (d * (y * y) + 1) * c = x * x * ((d * (y * y) + 1) * c):=by grind
 rw [this,hc]
 grind
theorem of_quot {n:Nat} {x y d c:Fin (n + 1)} (hc:(d * (y * y) + 1) * c = 1) (h:x * x = (y * y - 1) * c):y ^ 2 - x ^ 2 = 1 + d * x ^ 2 * y ^ 2:=by
 have e:x * x * (d * (y * y) + 1) = y * y - 1:=by
  rw [h]
  have:(y * y - 1) * c * (d * (y * y) + 1) = (y * y - 1) * ((d * (y * y) + 1) * c):=by grind
  rw [this,hc]
  grind
 grind
theorem x_square {x y:Z} (h:On dd x y):x * x = (y * y - 1) * iv (dd * (y * y) + 1):=quot_of (iv_ok (down_ne' y)) h
theorem on_of {x y:Z} (h:x * x = (y * y - 1) * iv (dd * (y * y) + 1)):On dd x y:=of_quot (iv_ok (down_ne' y)) h
def z (n:Nat):Z:=⟨n % (Q + 1),Nat.mod_lt _ (Nat.succ_pos _)⟩
theorem z_val (n:Nat):(z n).val = n % F.P:=by rw [← Q_one];rfl
theorem z_of (a:Z):z a.val = a:=Fin.ext (Nat.mod_eq_of_lt a.isLt)
theorem z_mod (n:Nat):z (n % F.P) = z n:=Fin.ext (by rw [z_val,z_val,Nat.mod_mod])
theorem z_same {m n:Nat}:z m = z n ↔ m % F.P = n % F.P:=by
 constructor
 ·intro h
  rw [← z_val,← z_val,h]
 ·intro h
  exact Fin.ext (by rw [z_val,z_val,h])
theorem z_add (a b:Nat):z ((a + b) % F.P) = z a + z b:=by
 refine Fin.ext ?_
 rw [Fin.val_add,z_val,z_val,z_val,Q_one,Nat.mod_mod,← Nat.add_mod]
theorem z_mul (a b:Nat):z (a * b % F.P) = z a * z b:=by
 refine Fin.ext ?_
 rw [Fin.val_mul,z_val,z_val,z_val,Q_one,Nat.mod_mod,← Nat.mul_mod]
theorem z_sub (a b:Nat):z ((a % F.P + (F.P - b % F.P)) % F.P) = z a - z b:=by
 have h:z ((a % F.P + (F.P - b % F.P)) % F.P) + z b = z a:=by
  rw [← z_add]
  refine z_same.2 ?_
  have hb:=Nat.mod_lt b (show 0 < F.P by have:=F.P_two;omega)
  rw [Nat.mod_mod,Nat.mod_add_mod,Nat.add_assoc]
  have e:(F.P - b % F.P + b) % F.P = 0:=by
   have hd:=Nat.div_add_mod b F.P
   rw [show F.P - b % F.P + b = F.P + F.P * (b / F.P) by omega,Nat.add_mul_mod_self_left,Nat.mod_self]
  rw [Nat.add_mod,e,Nat.add_zero,Nat.mod_mod,Nat.mod_mod]
 rw [← h]
 generalize z ((a % F.P + (F.P - b % F.P)) % F.P) = u
 generalize z b = v
 grind
theorem z_inv (a:Nat):z (a ^ (F.P - 2) % F.P) = iv (z a):=by
 refine Fin.ext ?_
 show _ = (z a).val ^ (Q + 1 - 2) % (Q + 1)
 rw [z_val,z_val,Nat.mod_mod,Q_one,← Nat.pow_mod]
theorem two_ne:(2:Z) ≠ 0:=by
 intro h
 obtain ⟨b,hb⟩:=half
 rw [h] at hb
 exact one_ne (hb.symm.trans (Fin.zero_mul b))
structure Sc (p:Pt) (x y u k:Z):Prop where
 nz:k ≠ 0
 hx:x = p.x * k
 hy:y = p.y * k
 hu:u = p.x * p.y * k
theorem sc_parts {n:Nat} {x1 y1 k1 x2 y2 k2 d a b:Fin (n + 1)} (ha:(1 + d * x1 * x2 * y1 * y2) * a = 1) (hb:(1 - d * x1 * x2 * y1 * y2) * b = 1) :
  ∀ (S D o u:Fin (n + 1)),D = (y1 * k1 - x1 * k1) * (y2 * k2 - x2 * k2) → S = (y1 * k1 + x1 * k1) * (y2 * k2 + x2 * k2) → o = k1 * k2 + k1 * k2 → u = d * (x1 * y1 * k1 * (x2 * y2 * k2)) + d * (x1 * y1 * k1 * (x2 * y2 * k2)) →
   (S - D) * (o - u) = (x1 * y2 + x2 * y1) * a * ((o + u) * (o - u)) ∧ (S + D) * (o + u) = (y1 * y2 + x1 * x2) * b * ((o + u) * (o - u)) ∧
   (S - D) * (S + D) = (x1 * y2 + x2 * y1) * a * ((y1 * y2 + x1 * x2) * b) * ((o + u) * (o - u)) ∧ o + u = 2 * (k1 * k2) * (1 + d * x1 * x2 * y1 * y2) ∧ o - u = 2 * (k1 * k2) * (1 - d * x1 * x2 * y1 * y2):=by
 intro S D o u hD hS ho hu
 have e1:o + u = 2 * (k1 * k2) * (1 + d * x1 * x2 * y1 * y2):=by subst ho hu;grind
 have e2:o - u = 2 * (k1 * k2) * (1 - d * x1 * x2 * y1 * y2):=by subst ho hu;grind
 have e3:S - D = 2 * (k1 * k2) * (x1 * y2 + x2 * y1):=by subst hS hD;grind
 have e4:S + D = 2 * (k1 * k2) * (y1 * y2 + x1 * x2):=by subst hS hD;grind
 rw [e1,e2,e3,e4]
 clear e1 e2 e3 e4 hD hS ho hu
 generalize 1 + d * x1 * x2 * y1 * y2 = A at *
 generalize 1 - d * x1 * x2 * y1 * y2 = B at *
 generalize x1 * y2 + x2 * y1 = M
 generalize y1 * y2 + x1 * x2 = N
 generalize 2 * (k1 * k2) = c
 refine ⟨?_,?_,?_,rfl,rfl⟩
 ·have:M * a * (c * A * (c * B)) = M * (c * (c * B)) * (A * a):=by grind
  rw [this,ha];grind
 ·have:N * b * (c * A * (c * B)) = N * (c * A * c) * (B * b):=by grind
  rw [this,hb];grind
 ·have:M * a * (N * b) * (c * A * (c * B)) = M * N * c * c * (A * a) * (B * b):=by grind
  rw [this,ha,hb];grind
theorem Sc.add {p q:Pt} {x1 y1 u1 k1 x2 y2 u2 k2 S D o u:Z} (h:Sc p x1 y1 u1 k1) (k:Sc q x2 y2 u2 k2) (hD:D = (y1 - x1) * (y2 - x2)) (hS:S = (y1 + x1) * (y2 + x2)) (ho:o = k1 * k2 + k1 * k2) (hu:u = dd * (u1 * u2) + dd * (u1 * u2)) :
  Sc (padd p q) ((S - D) * (o - u)) ((S + D) * (o + u)) ((S - D) * (S + D)) ((o + u) * (o - u)):=by
 obtain ⟨h0,hx,hy,hz⟩:=h
 obtain ⟨k0,kx,ky,kz⟩:=k
 obtain ⟨d1,d2⟩:=divisors p.on q.on
 subst hx hy hz kx ky kz
 obtain ⟨f1,f2,f3,f4,f5⟩:=sc_parts (iv_ok d1) (iv_ok d2) S D o u hD hS ho hu
 refine ⟨?_,f1,f2,f3⟩
 rw [f4,f5]
 exact ne_mul (ne_mul (ne_mul two_ne (ne_mul h0 k0)) d1) (ne_mul (ne_mul two_ne (ne_mul h0 k0)) d2)
theorem Sc.one (p:Pt):Sc p p.x p.y (p.x * p.y) 1:=⟨one_ne,by rw [Fin.mul_one],by rw [Fin.mul_one],by rw [Fin.mul_one]⟩
theorem Sc.out {p:Pt} {x y u k:Z} (h:Sc p x y u k):x * iv k = p.x ∧ y * iv k = p.y:=by
 obtain ⟨h1,h2,h3,_⟩:=h
 have e:=iv_ok h1
 rw [h2,h3]
 generalize iv k = j at *
 generalize p.x = a
 generalize p.y = b
 exact ⟨by rw [Fin.mul_assoc,e,Fin.mul_one],by rw [Fin.mul_assoc,e,Fin.mul_one]⟩
end Go.Proofs.YtmjimilhomabfaaGreatDoor.E
