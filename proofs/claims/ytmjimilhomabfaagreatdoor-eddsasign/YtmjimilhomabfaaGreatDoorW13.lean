/-
 Texts joined:  FldW FldV FldU
-/
import Derived.Test.YtmjimilhomabfaaGreatDoorK13
import Derived.Test.YtmjimilhomabfaaGreatDoorM13
namespace Go.Proofs.YtmjimilhomabfaaGreatDoor.F
open Go.RowKit
set_option linter.unusedVariables false
theorem W_pow:18446744073709551616 ^ 4 = 115792089237316195423570985008687907853269984665640564039457584007913129639936:=by decide
theorem T_P:115792089237316195423570985008687907853269984665640564039457584007913129639936 = 2 * P + 38:=by decide +kernel
theorem P_lt:P < 115792089237316195423570985008687907853269984665640564039457584007913129639936:=by decide +kernel
theorem P_pos:0 < P:=by decide +kernel
def wds (n:Nat):List Nat:=[n % 18446744073709551616,n / 18446744073709551616 % 18446744073709551616,n / 340282366920938463463374607431768211456 % 18446744073709551616,n / 6277101735386680763835789423207666416102355444464034512896 % 18446744073709551616]
theorem wds_length (n:Nat):(wds n).length = 4:=rfl
theorem wds_lo (n:Nat):Lo 18446744073709551616 (wds n):=by
 intro x hx
 simp only [wds,List.mem_cons,List.not_mem_nil,or_false] at hx
 rcases hx with rfl | rfl | rfl | rfl <;> exact Nat.mod_lt _ (by decide)
theorem val_four (a b c d:Nat):val 18446744073709551616 [a,b,c,d] = a + 18446744073709551616 * b + 340282366920938463463374607431768211456 * c + 6277101735386680763835789423207666416102355444464034512896 * d:=by
 simp only [val];omega
theorem wds_val {n:Nat} (h:n < 115792089237316195423570985008687907853269984665640564039457584007913129639936):val 18446744073709551616 (wds n) = n:=by
 rw [wds,val_four];omega
theorem of_wds {xs:List Nat} (hl:xs.length = 4) (h:Lo 18446744073709551616 xs):val 18446744073709551616 xs < 115792089237316195423570985008687907853269984665640564039457584007913129639936 ∧ xs = wds (val 18446744073709551616 xs):=by
 match xs,hl,h with
 | [a,b,c,d],_,h =>
  have ha:=h a (by simp)
  have hb:=h b (by simp)
  have hc:=h c (by simp)
  have hd:=h d (by simp)
  rw [val_four]
  refine ⟨by omega,?_⟩
  simp only [wds,List.cons.injEq,and_true]
  refine ⟨?_,?_,?_,?_⟩ <;> omega
theorem wds_of {xs:List Nat} {n:Nat} (hl:xs.length = 4) (h:Lo 18446744073709551616 xs) (hn:val 18446744073709551616 xs = n):xs = wds n:=hn ▸ (of_wds hl h).2
theorem wds_inj {m n:Nat} (hm:m < 115792089237316195423570985008687907853269984665640564039457584007913129639936) (hn:n < 115792089237316195423570985008687907853269984665640564039457584007913129639936) (h:wds m = wds n):m = n:=by
 rw [← wds_val hm,h,wds_val hn]
theorem wds_getD {n:Nat} (h:n < 115792089237316195423570985008687907853269984665640564039457584007913129639936) (i:Nat):(wds n).getD i 0 = n / 18446744073709551616 ^ i % 18446744073709551616:=by
 rw [getD_val (B:=18446744073709551616) (by decide) (wds_lo n),wds_val h]
theorem val_set' {B:Nat} {xs:List Nat} {i:Nat} (h:i < xs.length) (z:Nat):val B (xs.set i z) + B ^ i * xs.getD i 0 = val B xs + B ^ i * z:=by
 have h1:(xs.set i z).take i = xs.take i:=by rw [List.take_set_of_le (Nat.le_refl _)]
 have h2:(xs.set i z).drop (i + 1) = xs.drop (i + 1):=by rw [List.drop_set_of_lt (by omega)]
 have h3:(xs.set i z).getD i 0 = z:=by simp [List.getD,h]
 rw [val_split (xs.set i z) i,val_split xs i,h1,h2,h3,Nat.mul_add,Nat.mul_add]
 omega
theorem getD_set (xs:List Nat) (i j z:Nat) (h:i ≠ j):(xs.set i z).getD j 0 = xs.getD j 0:=by simp [List.getD,List.getElem?_set_ne h]
theorem val_snoc {B:Nat} (xs:List Nat) (z:Nat):val B (xs ++ [z]) = val B xs + B ^ xs.length * z:=by rw [val_append,val_one]
def mns (xs ys:List Nat):Nat → List Nat × Nat
 | 0=>([],0)
 | k + 1=>((mns xs ys k).1 ++ [(xs.getD k 0 + 18446744073709551616 - ys.getD k 0 - (mns xs ys k).2) % 18446744073709551616],if xs.getD k 0 < ys.getD k 0 + (mns xs ys k).2 then 1 else 0)
theorem mns_length (xs ys:List Nat) (k:Nat):(mns xs ys k).1.length = k:=by
 induction k with
 | zero=>rfl
 | succ k ih=>simp [mns,ih]
theorem mns_le (xs ys:List Nat) (k:Nat):(mns xs ys k).2 ≤ 1:=by
 cases k with
 | zero=>exact Nat.zero_le _
 | succ k=>simp only [mns];split <;> omega
theorem mns_lo (xs ys:List Nat) (k:Nat):Lo 18446744073709551616 (mns xs ys k).1:=by
 induction k with
 | zero=>exact Lo.nil _
 | succ k ih =>
  refine ih.append fun x hx=>?_
  simp only [List.mem_singleton] at hx
  subst hx
  exact Nat.mod_lt _ (by decide)
theorem mns_ok {xs ys:List Nat} (hx:Lo 18446744073709551616 xs) (hy:Lo 18446744073709551616 ys) (k:Nat):val 18446744073709551616 (mns xs ys k).1 + val 18446744073709551616 (ys.take k) = val 18446744073709551616 (xs.take k) + 18446744073709551616 ^ k * (mns xs ys k).2:=by
 induction k with
 | zero=>simp [mns,val]
 | succ k ih =>
  have h1:=hx.getD (by decide) k
  have h2:=hy.getD (by decide) k
  have h3:=mns_le xs ys k
  have hlen:=mns_length xs ys k
  rw [val_take_succ,val_take_succ]
  simp only [mns]
  rw [val_snoc,hlen]
  generalize (mns xs ys k).2 = b at *
  generalize xs.getD k 0 = x at *
  generalize ys.getD k 0 = y at *
  have e:(x + 18446744073709551616 - y - b) % 18446744073709551616 + y + b = x + 18446744073709551616 * (if x < y + b then 1 else 0):=by
   split <;> omega
  have e2:=congrArg (18446744073709551616 ^ k * ·) e
  simp only [Nat.mul_add] at e2
  rw [Nat.pow_succ,Nat.mul_assoc]
  omega
theorem mns_four {A B:Nat} (hA:A < 115792089237316195423570985008687907853269984665640564039457584007913129639936) (hB:B < 115792089237316195423570985008687907853269984665640564039457584007913129639936):(mns (wds A) (wds B) 4).1 = wds ((A + 115792089237316195423570985008687907853269984665640564039457584007913129639936 - B) % 115792089237316195423570985008687907853269984665640564039457584007913129639936) ∧ ((mns (wds A) (wds B) 4).2 = 1 ↔ A < B):=by
 have h1:=mns_ok (wds_lo A) (wds_lo B) 4
 have h2:=mns_le (wds A) (wds B) 4
 have h3:=mns_length (wds A) (wds B) 4
 have h4:=mns_lo (wds A) (wds B) 4
 rw [List.take_of_length_le (by simp [wds_length]),List.take_of_length_le (by simp [wds_length]),wds_val hA,wds_val hB,W_pow] at h1
 obtain ⟨h5,_⟩:=of_wds h3 h4
 refine ⟨wds_of h3 h4 ?_,?_⟩
 ·omega
 ·omega
def pls (xs ys:List Nat):Nat → List Nat × Nat
 | 0=>([],0)
 | k + 1=>((pls xs ys k).1 ++ [(xs.getD k 0 + ys.getD k 0 + (pls xs ys k).2) % 18446744073709551616],(xs.getD k 0 + ys.getD k 0 + (pls xs ys k).2) / 18446744073709551616)
theorem pls_length (xs ys:List Nat) (k:Nat):(pls xs ys k).1.length = k:=by
 induction k with
 | zero=>rfl
 | succ k ih=>simp [pls,ih]
theorem pls_le {xs ys:List Nat} (hx:Lo 18446744073709551616 xs) (hy:Lo 18446744073709551616 ys) (k:Nat):(pls xs ys k).2 ≤ 1:=by
 induction k with
 | zero=>exact Nat.zero_le _
 | succ k ih =>
  have h1:=hx.getD (by decide) k
  have h2:=hy.getD (by decide) k
  simp only [pls];omega
theorem pls_lo (xs ys:List Nat) (k:Nat):Lo 18446744073709551616 (pls xs ys k).1:=by
 induction k with
 | zero=>exact Lo.nil _
 | succ k ih =>
  refine ih.append fun x hx=>?_
  simp only [List.mem_singleton] at hx
  subst hx
  exact Nat.mod_lt _ (by decide)
theorem pls_ok (xs ys:List Nat) (k:Nat):val 18446744073709551616 (pls xs ys k).1 + 18446744073709551616 ^ k * (pls xs ys k).2 = val 18446744073709551616 (xs.take k) + val 18446744073709551616 (ys.take k):=by
 induction k with
 | zero=>simp [pls,val]
 | succ k ih =>
  have hlen:=pls_length xs ys k
  rw [val_take_succ,val_take_succ]
  simp only [pls]
  rw [val_snoc,hlen]
  generalize (pls xs ys k).2 = b at *
  generalize xs.getD k 0 = x at *
  generalize ys.getD k 0 = y at *
  have e2:=congrArg (18446744073709551616 ^ k * ·) (Nat.mod_add_div (x + y + b) 18446744073709551616)
  simp only [Nat.mul_add] at e2
  rw [Nat.pow_succ,Nat.mul_assoc]
  omega
theorem pls_four {A B:Nat} (hA:A < 115792089237316195423570985008687907853269984665640564039457584007913129639936) (hB:B < 115792089237316195423570985008687907853269984665640564039457584007913129639936):(pls (wds A) (wds B) 4).1 = wds ((A + B) % 115792089237316195423570985008687907853269984665640564039457584007913129639936) ∧ (pls (wds A) (wds B) 4).2 = (A + B) / 115792089237316195423570985008687907853269984665640564039457584007913129639936:=by
 have h1:=pls_ok (wds A) (wds B) 4
 have h2:=pls_le (wds_lo A) (wds_lo B) 4
 have h3:=pls_length (wds A) (wds B) 4
 have h4:=pls_lo (wds A) (wds B) 4
 rw [List.take_of_length_le (by simp [wds_length]),List.take_of_length_le (by simp [wds_length]),wds_val hA,wds_val hB,W_pow] at h1
 obtain ⟨h5,_⟩:=of_wds h3 h4
 refine ⟨wds_of h3 h4 ?_,?_⟩ <;> omega
theorem fold_mod (a b:Nat):(a + 115792089237316195423570985008687907853269984665640564039457584007913129639936 * b) % P = (a + 38 * b) % P:=by
 rw [show a + 115792089237316195423570985008687907853269984665640564039457584007913129639936 * b = a + 38 * b + P * (2 * b) by rw [T_P,Nat.add_mul,Nat.mul_assoc,Nat.mul_left_comm 2 P];omega,Nat.add_mul_mod_self_left]
theorem red_once {A:Nat} (h:A < 115792089237316195423570985008687907853269984665640564039457584007913129639936):A % P = (if A < P then A else if A - P < P then A - P else A - P - P):=by
 have h1:=T_P
 have h2:38 < P:=by decide +kernel
 by_cases h3:A < P
 ·rw [if_pos h3,Nat.mod_eq_of_lt h3]
 ·rw [if_neg h3,Nat.mod_eq_sub_mod (by omega)]
  by_cases h4:A - P < P
  ·rw [if_pos h4,Nat.mod_eq_of_lt h4]
  ·rw [if_neg h4,Nat.mod_eq_sub_mod (by omega),Nat.mod_eq_of_lt (by omega)]
theorem mod_lt_P (n:Nat):n % P < P:=Nat.mod_lt _ P_pos
theorem mod_lt_T (n:Nat):n % P < 115792089237316195423570985008687907853269984665640564039457584007913129639936:=Nat.lt_trans (mod_lt_P n) P_lt
structure Pout (B n:Nat) (xs ys l:List Nat) (i:Nat):Prop where
 len:l.length = n + n
 lo:Lo B l
 zero:∀ k,i + n ≤ k → l.getD k 0 = 0
 eq:val B l = val B (xs.take i) * val B ys
structure Pin (B n:Nat) (xs ys l:List Nat) (i j c:Nat):Prop where
 len:l.length = n + n
 lo:Lo B l
 zero:∀ k,i + n ≤ k → l.getD k 0 = 0
 small:c < B
 eq:val B l + B ^ (i + j) * c = val B (xs.take i) * val B ys + B ^ i * (xs.getD i 0 * val B (ys.take j))
section
variable {B n:Nat} {xs ys l:List Nat} {i j c:Nat}
theorem Pout.begin (hB:0 < B) (xs ys:List Nat):Pout B n xs ys (Z (n + n)) 0 :=
 ⟨Z_length _,Z_lo hB _,fun k _=>by
  by_cases h:k < n + n
  ·simp [Z,List.getD,h]
  ·rw [getD_past (by rw [Z_length];omega)],by rw [Z,val_zeros];simp [val]⟩
theorem Pout.inner (hB:0 < B) (h:Pout B n xs ys l i):Pin B n xs ys l i 0 0 :=
 ⟨h.len,h.lo,h.zero,hB,by rw [h.eq];simp [val]⟩
theorem Pin.step (hB:0 < B) (hx:Lo B xs) (hy:Lo B ys) (h:Pin B n xs ys l i j c) (hj:j < n) (hi:i < n) :
  Pin B n xs ys (l.set (i + j) ((xs.getD i 0 * ys.getD j 0 + l.getD (i + j) 0 + c) % B)) i (j + 1) ((xs.getD i 0 * ys.getD j 0 + l.getD (i + j) 0 + c) / B):=by
 have h1:=hx.getD hB i
 have h2:=hy.getD hB j
 have h3:=h.lo.getD hB (i + j)
 have h4:=h.small
 have hlen:=h.len
 refine ⟨by simpa using hlen,h.lo.set _ _ (Nat.mod_lt _ hB),fun k hk=>by rw [getD_set _ _ _ _ (by omega)];exact h.zero k hk,?_,?_⟩
 ·refine Nat.div_lt_of_lt_mul ?_
  have e1:xs.getD i 0 * ys.getD j 0 ≤ (B - 1) * (B - 1):=Nat.mul_le_mul (by omega) (by omega)
  obtain ⟨b,rfl⟩:∃ b,B = b + 1:=⟨B - 1,by omega⟩
  rw [Nat.add_sub_cancel] at e1
  have e2:(b + 1) * (b + 1) = b * b + 2 * b + 1:=by grind
  rw [e2];omega
 ·have hs:=val_set' (B:=B) (show i + j < l.length by omega) ((xs.getD i 0 * ys.getD j 0 + l.getD (i + j) 0 + c) % B)
  have hd:=congrArg (B ^ (i + j) * ·) (Nat.mod_add_div (xs.getD i 0 * ys.getD j 0 + l.getD (i + j) 0 + c) B)
  have he:=h.eq
  simp only [Nat.mul_add] at hd
  rw [val_take_succ,← Nat.add_assoc i j 1,Nat.pow_succ,Nat.mul_assoc,Nat.mul_add,Nat.mul_add]
  have e3:B ^ i * (xs.getD i 0 * (B ^ j * ys.getD j 0)) = B ^ (i + j) * (xs.getD i 0 * ys.getD j 0):=by
   rw [Nat.pow_add,Nat.mul_left_comm (xs.getD i 0),Nat.mul_assoc]
  rw [e3]
  generalize (xs.getD i 0 * ys.getD j 0 + l.getD (i + j) 0 + c) % B = z at *
  generalize (xs.getD i 0 * ys.getD j 0 + l.getD (i + j) 0 + c) / B = d at *
  omega
theorem Pin.out (h:Pin B n xs ys l i n c) (hy:ys.length = n) (hi:i < n):Pout B n xs ys (l.set (i + n) c) (i + 1):=by
 have hlen:=h.len
 refine ⟨by simpa using hlen,h.lo.set _ _ h.small,fun k hk=>by rw [getD_set _ _ _ _ (by omega)];exact h.zero k (by omega),?_⟩
 have hs:=val_set' (B:=B) (show i + n < l.length by omega) c
 rw [h.zero _ (Nat.le_refl _),Nat.mul_zero,Nat.add_zero] at hs
 rw [hs,h.eq,val_take_succ,List.take_of_length_le (l:=ys) (by omega),Nat.add_mul,Nat.mul_assoc]
theorem Pout.all (h:Pout B n xs ys l n) (hx:xs.length = n):val B l = val B xs * val B ys:=by
 rw [h.eq,List.take_of_length_le (by omega)]
end
def fld (B n:Nat) (p:List Nat):Nat → List Nat × Nat
 | 0=>([],0)
 | k + 1=>((fld B n p k).1 ++ [(p.getD (k + n) 0 * 38 + p.getD k 0 + (fld B n p k).2) % B],(p.getD (k + n) 0 * 38 + p.getD k 0 + (fld B n p k).2) / B)
theorem fld_length (B n:Nat) (p:List Nat) (k:Nat):(fld B n p k).1.length = k:=by
 induction k with
 | zero=>rfl
 | succ k ih=>simp [fld,ih]
theorem fld_lo {B:Nat} (hB:0 < B) (n:Nat) (p:List Nat) (k:Nat):Lo B (fld B n p k).1:=by
 induction k with
 | zero=>exact Lo.nil _
 | succ k ih =>
  refine ih.append fun x hx=>?_
  simp only [List.mem_singleton] at hx
  subst hx
  exact Nat.mod_lt _ hB
theorem fld_le {B n:Nat} {p:List Nat} (hB:0 < B) (hp:Lo B p) (k:Nat):(fld B n p k).2 ≤ 38:=by
 induction k with
 | zero=>exact Nat.zero_le _
 | succ k ih =>
  have h1:=hp.getD hB k
  have h2:=hp.getD hB (k + n)
  simp only [fld]
  refine Nat.le_of_lt_succ (Nat.div_lt_of_lt_mul ?_)
  have:B * Nat.succ 38 = 39 * B:=Nat.mul_comm _ _
  omega
theorem fld_ok (B n:Nat) (p:List Nat) (k:Nat):val B (fld B n p k).1 + B ^ k * (fld B n p k).2 = val B (p.take k) + 38 * val B ((p.drop n).take k):=by
 induction k with
 | zero=>simp [fld,val]
 | succ k ih =>
  have hlen:=fld_length B n p k
  rw [val_take_succ,val_take_succ,getD_drop,Nat.add_comm n k]
  simp only [fld]
  rw [val_snoc,hlen]
  generalize (fld B n p k).2 = b at *
  generalize p.getD k 0 = x at *
  generalize p.getD (k + n) 0 = y at *
  have e2:=congrArg (B ^ k * ·) (Nat.mod_add_div (y * 38 + x + b) B)
  simp only [Nat.mul_add] at e2
  rw [Nat.pow_succ,Nat.mul_assoc,Nat.mul_add 38]
  have e3:B ^ k * (y * 38) = 38 * (B ^ k * y):=by rw [← Nat.mul_assoc,Nat.mul_comm]
  omega
theorem fld_mod {B n:Nat} {p:List Nat} (hB:0 < B) (hp:Lo B p) (hl:p.length = n + n) (hT:B ^ n = 115792089237316195423570985008687907853269984665640564039457584007913129639936) :
  (val B (fld B n p n).1 + 115792089237316195423570985008687907853269984665640564039457584007913129639936 * (fld B n p n).2) % P = val B p % P ∧ val B (fld B n p n).1 < 115792089237316195423570985008687907853269984665640564039457584007913129639936 ∧ (fld B n p n).2 ≤ 38:=by
 have h1:=fld_ok B n p n
 have h2:=val_take_drop (B:=B) p n (by omega)
 have h3:=val_lt hB (fld_lo hB n p n)
 rw [fld_length,hT] at h3
 rw [List.take_of_length_le (show (p.drop n).length ≤ n by simp;omega),hT] at h1
 rw [hT] at h2
 refine ⟨?_,h3,fld_le hB hp n⟩
 rw [h1,h2,fold_mod]
theorem fold_on {M c N:Nat} (hM:M < 115792089237316195423570985008687907853269984665640564039457584007913129639936) (hc:c ≤ 38) (h:(M + 115792089237316195423570985008687907853269984665640564039457584007913129639936 * c) % P = N % P):((M + 38 * c) % 115792089237316195423570985008687907853269984665640564039457584007913129639936 + 115792089237316195423570985008687907853269984665640564039457584007913129639936 * ((M + 38 * c) / 115792089237316195423570985008687907853269984665640564039457584007913129639936)) % P = N % P ∧ (M + 38 * c) / 115792089237316195423570985008687907853269984665640564039457584007913129639936 ≤ 1 ∧ ((M + 38 * c) / 115792089237316195423570985008687907853269984665640564039457584007913129639936 = 1 → (M + 38 * c) % 115792089237316195423570985008687907853269984665640564039457584007913129639936 < 1444):=by
 refine ⟨?_,by omega,by omega⟩
 rw [fold_mod] at h
 rw [Nat.mod_add_div,h]
theorem fold_next {M c N k:Nat} (hM:M < 115792089237316195423570985008687907853269984665640564039457584007913129639936) (hc:c ≤ 38) (hk:k < 2) (h:(M + 115792089237316195423570985008687907853269984665640564039457584007913129639936 * c) % P = N % P ∧ (k = 1 → c ≤ 1 ∧ (c = 1 → M < 1444)) ∧ (k = 2 → c = 0)) :
  (M + 38 * c) / 115792089237316195423570985008687907853269984665640564039457584007913129639936 ≤ 38 ∧ (((M + 38 * c) % 115792089237316195423570985008687907853269984665640564039457584007913129639936 + 115792089237316195423570985008687907853269984665640564039457584007913129639936 * ((M + 38 * c) / 115792089237316195423570985008687907853269984665640564039457584007913129639936)) % P = N % P ∧ (k + 1 = 1 → (M + 38 * c) / 115792089237316195423570985008687907853269984665640564039457584007913129639936 ≤ 1 ∧ ((M + 38 * c) / 115792089237316195423570985008687907853269984665640564039457584007913129639936 = 1 → (M + 38 * c) % 115792089237316195423570985008687907853269984665640564039457584007913129639936 < 1444)) ∧ (k + 1 = 2 → (M + 38 * c) / 115792089237316195423570985008687907853269984665640564039457584007913129639936 = 0)):=by
 obtain ⟨h1,h2,h3⟩:=h
 obtain ⟨k1,k2,k3⟩:=fold_on hM hc h1
 refine ⟨by omega,k1,fun _=>⟨k2,k3⟩,fun hk2=>?_⟩
 obtain ⟨h4,h5⟩:=h2 (by omega)
 omega
theorem wds_small {n:Nat} (h:n < 18446744073709551616):wds n = [n,0,0,0]:=by
 simp only [wds,List.cons.injEq,and_true]
 omega
def dig (B n N:Nat):List Nat:=(List.range n).map fun j=>N / B ^ j % B
theorem dig_length (B n N:Nat):(dig B n N).length = n:=by simp [dig]
theorem dig_lo {B:Nat} (hB:0 < B) (n N:Nat):Lo B (dig B n N):=by
 intro x hx
 obtain ⟨j,_,rfl⟩:=List.mem_map.1 hx
 exact Nat.mod_lt _ hB
theorem dig_getD {B n N k:Nat} (h:k < n):(dig B n N).getD k 0 = N / B ^ k % B:=by simp [dig,List.getD,h]
theorem dig_val {B n N:Nat} (hB:0 < B) (h:N < B ^ n):val B (dig B n N) = N:=by
 have:=val_of_digits (xs:=dig B n N) (M:=N) hB (fun i hi=>by rw [dig_length] at hi;exact dig_getD hi)
 rw [this,dig_length,Nat.mod_eq_of_lt h]
theorem of_dig {B:Nat} {xs:List Nat} (hB:0 < B) (h:Lo B xs):xs = dig B xs.length (val B xs):=by
 apply List.ext_getElem (by rw [dig_length])
 intro i h1 h2
 have e1:=getD_val hB h i
 have e2:(dig B xs.length (val B xs)).getD i 0 = val B xs / B ^ i % B:=dig_getD h1
 rw [← e2] at e1
 simpa [List.getD,List.getElem?_eq_getElem h1,List.getElem?_eq_getElem h2] using e1
theorem part_of {N q r s:Nat} (h:r + s ≤ 64):N / 18446744073709551616 ^ q % 18446744073709551616 / 2 ^ r % 2 ^ s = N / 2 ^ (64 * q + r) % 2 ^ s:=by
 have hp:(18446744073709551616:Nat) ^ q = 2 ^ (64 * q):=by rw [Nat.pow_mul]
 have hW:(18446744073709551616:Nat) = 2 ^ r * 2 ^ (64 - r):=by rw [← Nat.pow_add,show r + (64 - r) = 64 by omega]
 rw [hp,hW,Nat.mod_mul_right_div_self,Nat.div_div_eq_div_mul,← Nat.pow_add]
 exact Nat.mod_mod_of_dvd _ (Nat.pow_dvd_pow 2 (by omega))
theorem half_of (N k:Nat):N / 18446744073709551616 ^ (k / 2) % 18446744073709551616 / 2 ^ (32 * (k % 2)) % 4294967296 = N / 4294967296 ^ k % 4294967296:=by
 have h:=part_of (N:=N) (q:=k / 2) (r:=32 * (k % 2)) (s:=32) (by omega)
 rw [show (2:Nat) ^ 32 = 4294967296 from rfl] at h
 rw [h,show 64 * (k / 2) + 32 * (k % 2) = 32 * k by omega,Nat.pow_mul]
theorem byte_of (N k:Nat):N / 18446744073709551616 ^ (k / 8) % 18446744073709551616 / 2 ^ (8 * (k % 8)) % 256 = N / 256 ^ k % 256:=by
 have h:=part_of (N:=N) (q:=k / 8) (r:=8 * (k % 8)) (s:=8) (by omega)
 rw [show (2:Nat) ^ 8 = 256 from rfl] at h
 rw [h,show 64 * (k / 8) + 8 * (k % 8) = 8 * k by omega,Nat.pow_mul]
theorem B32_pow:4294967296 ^ 8 = 115792089237316195423570985008687907853269984665640564039457584007913129639936:=by decide
theorem B256_pow:256 ^ 32 = 115792089237316195423570985008687907853269984665640564039457584007913129639936:=by decide
theorem two_halves {e:List Nat} (h:Lo 4294967296 e) (hl:e.length = 8):[e.getD 0 0 + 4294967296 * e.getD 1 0,e.getD 2 0 + 4294967296 * e.getD 3 0,e.getD 4 0 + 4294967296 * e.getD 5 0,e.getD 6 0 + 4294967296 * e.getD 7 0] = wds (val 4294967296 e) ∧ val 4294967296 e < 115792089237316195423570985008687907853269984665640564039457584007913129639936:=by
 match e,hl,h with
 | [a,b,c,d,f,g,i,j],_,h =>
  have ha:=h a (by simp)
  have hb:=h b (by simp)
  have hc:=h c (by simp)
  have hd:=h d (by simp)
  have hf:=h f (by simp)
  have hg:=h g (by simp)
  have hi:=h i (by simp)
  have hj:=h j (by simp)
  have hv:val 4294967296 [a,b,c,d,f,g,i,j] = val 18446744073709551616 [a + 4294967296 * b,c + 4294967296 * d,f + 4294967296 * g,i + 4294967296 * j]:=by simp only [val];omega
  have hlo:Lo 18446744073709551616 [a + 4294967296 * b,c + 4294967296 * d,f + 4294967296 * g,i + 4294967296 * j]:=by
   intro x hx
   simp only [List.mem_cons,List.not_mem_nil,or_false] at hx
   rcases hx with rfl | rfl | rfl | rfl <;> omega
  obtain ⟨k1,k2⟩:=of_wds rfl hlo
  rw [hv]
  exact ⟨by simpa using k2,k1⟩
def hw (e:List Nat):List Nat:=[e.getD 0 0 + 4294967296 * e.getD 1 0,e.getD 2 0 + 4294967296 * e.getD 3 0,e.getD 4 0 + 4294967296 * e.getD 5 0,e.getD 6 0 + 4294967296 * e.getD 7 0]
theorem hw_getD (e:List Nat) {k:Nat} (h:k < 4):(hw e).getD k 0 = e.getD (2 * k) 0 + 4294967296 * e.getD (2 * k + 1) 0:=by
 rcases (by omega:k = 0 ∨ k = 1 ∨ k = 2 ∨ k = 3) with rfl | rfl | rfl | rfl <;> rfl
theorem word_set {v k x:Nat} (hk:k < 32) (hv:v < 256 ^ k) (hx:x < 256) :
  (wds v).set (k / 8) ((wds v).getD (k / 8) 0 + x * 2 ^ (8 * (k % 8))) = wds (v + 256 ^ k * x) ∧ (wds v).getD (k / 8) 0 < 2 ^ (8 * (k % 8)) ∧ v + 256 ^ k * x < 256 ^ (k + 1):=by
 have h0:v + 256 ^ k * x < 256 ^ (k + 1):=by
  rw [Nat.pow_succ]
  have:=Nat.mul_le_mul_left (256 ^ k) (show x + 1 ≤ 256 by omega)
  rw [Nat.mul_add] at this
  omega
 have hT:(256:Nat) ^ (k + 1) ≤ 115792089237316195423570985008687907853269984665640564039457584007913129639936:=by rw [← B256_pow];exact Nat.pow_le_pow_right (by decide) (by omega)
 have hvT:v < 115792089237316195423570985008687907853269984665640564039457584007913129639936:=Nat.lt_of_lt_of_le hv (by rw [← B256_pow];exact Nat.pow_le_pow_right (by decide) (by omega))
 have hW:(18446744073709551616:Nat) ^ (k / 8) * 2 ^ (8 * (k % 8)) = 256 ^ k:=by
  rw [show (18446744073709551616:Nat) = 2 ^ 64 from rfl,← Nat.pow_mul,← Nat.pow_add,show 64 * (k / 8) + 8 * (k % 8) = 8 * k by omega,Nat.pow_mul]
 have hp:0 < (18446744073709551616:Nat) ^ (k / 8):=Nat.pow_pos (by decide)
 have hlt:(wds v).getD (k / 8) 0 < 2 ^ (8 * (k % 8)):=by
  rw [wds_getD hvT]
  refine Nat.lt_of_le_of_lt (Nat.mod_le _ _) ?_
  rw [Nat.div_lt_iff_lt_mul hp,Nat.mul_comm,hW]
  exact hv
 refine ⟨?_,hlt,h0⟩
 have hr:8 * (k % 8) ≤ 56:=by omega
 have hx2:x * 2 ^ (8 * (k % 8)) + 2 ^ (8 * (k % 8)) ≤ 18446744073709551616:=by
  have h1:x * 2 ^ (8 * (k % 8)) + 2 ^ (8 * (k % 8)) = (x + 1) * 2 ^ (8 * (k % 8)):=by rw [Nat.add_mul,Nat.one_mul]
  rw [h1]
  calc (x + 1) * 2 ^ (8 * (k % 8)) ≤ 256 * 2 ^ 56:=Nat.mul_le_mul (by omega) (Nat.pow_le_pow_right (by decide) hr)
   _ ≤ 18446744073709551616:=by decide
 refine wds_of (by rw [List.length_set];rfl) ((wds_lo v).set _ _ (by omega)) ?_
 have hs:=val_set' (B:=18446744073709551616) (xs:=wds v) (i:=k / 8) (by rw [wds_length];omega) ((wds v).getD (k / 8) 0 + x * 2 ^ (8 * (k % 8)))
 rw [wds_val hvT,Nat.mul_add] at hs
 have e:(18446744073709551616:Nat) ^ (k / 8) * (x * 2 ^ (8 * (k % 8))) = 256 ^ k * x:=by rw [Nat.mul_comm x,← Nat.mul_assoc,hW]
 rw [e] at hs
 omega
theorem or_add {a x r:Nat} (h:a < 2 ^ r):a ||| x * 2 ^ r = a + x * 2 ^ r:=by
 rw [Nat.or_comm,Nat.mul_comm x,Nat.add_comm a,Nat.two_pow_add_eq_or_of_lt h x]
end Go.Proofs.YtmjimilhomabfaaGreatDoor.F
