/-
 The mathematics of signatures: what is signed holds, of one point there is one number, a live question by the kernel. No conditions but what each says.
-/
import Derived.Test.YtmjimilhomabfaaGreatDoorEpK
import Derived.Test.YtmjimilhomabfaaGreatDoorS14b
import Derived.Test.YtmjimilhomabfaaGreatDoorH14a
namespace Go.Proofs.YtmjimilhomabfaaGreatDoor.F
open Go.RowKit
set_option linter.unusedVariables false
set_option maxRecDepth 10000
open E (z z_of Pt padd pneg pmul padd_comm padd_assoc padd_zero zero_padd padd_neg cancel pmul_add pmul_mul pmul_zero pmul_padd pmul_one)
def h5 (bs:List Nat):List Nat:=S3.sum3 true bs
theorem h5_length (bs:List Nat):(h5 bs).length = 64:=S3.out3_length _
theorem h5_lo (bs:List Nat):Lo 256 (h5 bs):=by
 have hb:∀ n,Lo 256 (S3.be8 n):=fun n x hx=>by
  simp only [S3.be8,List.mem_cons,List.not_mem_nil,or_false] at hx
  rcases hx with rfl | rfl | rfl | rfl | rfl | rfl | rfl | rfl <;> exact Nat.mod_lt _ (by decide)
 unfold h5 S3.sum3 S3.out3
 exact ((((((((hb _).append (hb _)).append (hb _)).append (hb _)).append (hb _)).append (hb _)).append (hb _)).append (hb _))
def wid (bs:List Nat):Nat:=val 256 (h5 bs) % Lq
def sec (sd:List Nat):Nat:=val 256 (cl ((h5 sd).take 32))
def pre (sd:List Nat):List Nat:=(h5 sd).drop 32
def kb (n:Nat):List Nat:=pk (pmul n Bpt)
def ky (sd:List Nat):List Nat:=kb (sec sd)
def sr (sd m:List Nat):List Nat:=kb (wid (pre sd ++ m))
def ss (sd m:List Nat):Nat:=(wid (pre sd ++ m) + wid (sr sd m ++ (ky sd ++ m)) * sec sd % Lq) % Lq
def sgn (sd m:List Nat):List Nat:=sr sd m ++ dig 256 32 (ss sd m)
def unP (b:List Nat):Pt:=ownP (unX (hiB b) (lowB b)) (lowB b)
def vfy (k m s:List Nat):Bool :=
 decide (s.length = 64) && (unOk (hiB k) (lowB k) && (decide (val 256 (s.drop 32) < Lq) && decide (pk (padd (pmul (val 256 (s.drop 32)) Bpt) (pmul (wid (s.take 32 ++ (k ++ m))) (pneg (unP k)))) = s.take 32)))
theorem wid_lt (bs:List Nat):wid bs < Lq:=mod_Lq_lt _
theorem ss_lt (sd m:List Nat):ss sd m < Lq:=mod_Lq_lt _
theorem kb_length (n:Nat):(kb n).length = 32:=pk_length _
theorem kb_lo (n:Nat):Lo 256 (kb n):=pk_lo _
theorem sec_lt (sd:List Nat):sec sd < 115792089237316195423570985008687907853269984665640564039457584007913129639936:=by
 have h:Lo 256 (cl ((h5 sd).take 32)):=cl_lo ((h5_lo sd).take 32)
 have hl:(cl ((h5 sd).take 32)).length = 32:=by rw [cl_length,List.length_take,h5_length];rfl
 have:=val_lt (by decide) h
 rw [hl] at this
 exact this
theorem unP_pk (p:Pt):unP (pk p) = p:=by
 unfold unP
 rw [pk_hi,pk_low,(point_unOk p).2,ownP_val]
theorem unOk_pk (p:Pt):unOk (hiB (pk p)) (lowB (pk p)) = true:=by rw [pk_hi,pk_low];exact (point_unOk p).1
theorem pk_inj {p q:Pt} (h:pk p = pk q):p = q:=by rw [← unP_pk p,h,unP_pk]
theorem pneg_mul (k:Nat) (p:Pt):pmul k (pneg p) = pneg (pmul k p):=by
 refine cancel (p:=pmul k p) ?_
 rw [padd_neg,← pmul_padd,padd_neg,pmul_zero]
theorem Lq_L:Lq = E.L:=rfl
theorem B_zero:pmul Lq Bpt = Pt.zero:=by
 rw [show Bpt = E.Bp from Pt.same (Fin.ext Bpt_x) (Fin.ext Bpt_y)]
 exact E.B_order
theorem mul_mod (n:Nat):pmul (n % Lq) Bpt = pmul n Bpt:=by
 have h:pmul n Bpt = padd (pmul (n / Lq * Lq) Bpt) (pmul (n % Lq) Bpt):=by rw [← pmul_add,Nat.mul_comm,Nat.div_add_mod]
 rw [h,E.kill B_zero,zero_padd]
theorem B_ne:Bpt ≠ Pt.zero:=by
 rw [show Bpt = E.Bp from Pt.same (Fin.ext Bpt_x) (Fin.ext Bpt_y)]
 exact E.B_ne
theorem zero_dvd {n:Nat} (h:pmul n Bpt = Pt.zero):Lq ∣ n:=by
 rcases E.L_prime.gcd n with h1 | h1
 ·have:=E.mul_gcd E.L E.L n (Nat.le_refl _) B_zero h
  rw [h1,pmul_one] at this
  exact absurd this B_ne
 ·exact h1
theorem mul_same {a b:Nat} (h:pmul a Bpt = pmul b Bpt):a % Lq = b % Lq:=by
 rcases Nat.le_total a b with k | k
 ·obtain ⟨c,hc⟩:=zero_dvd (E.same_mul k h)
  have:b = a + Lq * c:=by omega
  rw [this,Nat.add_mul_mod_self_left]
 ·obtain ⟨c,hc⟩:=zero_dvd (E.same_mul k h.symm)
  have:a = b + Lq * c:=by omega
  rw [this,Nat.add_mul_mod_self_left]
theorem held (s k a r:Nat):pk (padd (pmul s Bpt) (pmul k (pneg (pmul a Bpt)))) = kb r ↔ s % Lq = (r + k * a) % Lq:=by
 have e:padd (padd (pmul s Bpt) (pmul k (pneg (pmul a Bpt)))) (pmul (k * a) Bpt) = pmul s Bpt:=by
  rw [pneg_mul,← pmul_mul,padd_assoc,padd_comm (pneg _),padd_neg,padd_zero]
 constructor
 ·intro h
  rw [pk_inj h,← pmul_add] at e
  exact mul_same e.symm
 ·intro h
  have h2:pmul s Bpt = pmul (r + k * a) Bpt:=by rw [← mul_mod s,h,mul_mod]
  unfold kb
  congr 1
  rw [pneg_mul,← pmul_mul,h2,pmul_add,padd_assoc,padd_neg,padd_zero]
theorem take_app {a b:List Nat} (h:a.length = 32):(a ++ b).take 32 = a:=by rw [← h];exact List.take_left ..
theorem drop_app {a b:List Nat} (h:a.length = 32):(a ++ b).drop 32 = b:=by rw [← h];exact List.drop_left ..
theorem vfy_kb (sd m t:List Nat) (r:Nat) (ht:Lo 256 t) (hl:t.length = 32):vfy (ky sd) m (kb r ++ t) = (decide (val 256 t < Lq) && decide (val 256 t % Lq = (r + wid (kb r ++ (ky sd ++ m)) * sec sd) % Lq)):=by
 have h1:(kb r ++ t).length = 64:=by rw [List.length_append,kb_length,hl]
 unfold vfy
 rw [h1,take_app (kb_length r),drop_app (kb_length r)]
 have hu:unP (ky sd) = pmul (sec sd) Bpt:=by unfold ky kb;exact unP_pk (pmul (sec sd) Bpt)
 have ho:unOk (hiB (ky sd)) (lowB (ky sd)) = true:=by unfold ky kb;exact unOk_pk (pmul (sec sd) Bpt)
 rw [hu,ho,decide_eq_true rfl,Bool.true_and,Bool.true_and]
 exact congrArg (fun b=>(decide (val 256 t < Lq) && b)) (decide_eq_decide.2 (held (val 256 t) (wid (kb r ++ (ky sd ++ m))) (sec sd) r))
theorem Lq_lt32:Lq < 256 ^ 32:=by decide +kernel
theorem ss_eq (sd m:List Nat):ss sd m = (wid (pre sd ++ m) + wid (sr sd m ++ (ky sd ++ m)) * sec sd) % Lq:=by unfold ss;rw [Nat.add_mod_mod]
theorem one_s (sd m t:List Nat) (ht:Lo 256 t) (hl:t.length = 32):vfy (ky sd) m (sr sd m ++ t) = decide (t = dig 256 32 (ss sd m)):=by
 have h:=vfy_kb sd m t (wid (pre sd ++ m)) ht hl
 have hs:=ss_eq sd m
 have hlt:=ss_lt sd m
 have hd:val 256 (dig 256 32 (ss sd m)) = ss sd m:=dig_val (by decide) (Nat.lt_trans hlt Lq_lt32)
 have ht2:t = dig 256 32 (val 256 t):=by rw [← hl];exact of_dig (by decide) ht
 unfold sr at hs ⊢
 rw [h,← hs,← Bool.decide_and]
 refine decide_eq_decide.2 ⟨?_,?_⟩
 ·rintro ⟨h1,h2⟩
  rw [Nat.mod_eq_of_lt h1] at h2
  rw [ht2,h2]
 ·rintro rfl
  rw [hd,Nat.mod_eq_of_lt hlt]
  exact ⟨hlt,rfl⟩
theorem signed (sd m:List Nat):vfy (ky sd) m (sgn sd m) = true:=by
 unfold sgn
 rw [one_s _ _ _ (dig_lo (by decide) 32 _) (dig_length _ _ _)]
 exact decide_eq_true rfl
theorem sgn_length (sd m:List Nat):(sgn sd m).length = 64:=by unfold sgn sr;rw [List.length_append,kb_length,dig_length]
theorem sgn_lo (sd m:List Nat):Lo 256 (sgn sd m):=(kb_lo _).append (dig_lo (by decide) 32 _)
theorem vfy_long {k m s:List Nat} (h:s.length ≠ 64):vfy k m s = false:=by unfold vfy;rw [decide_eq_false h];rfl
theorem over_s (k m r:List Nat) (hr:r.length = 32) {n:Nat} (hn:n < 256 ^ 32) (h:Lq ≤ n):vfy k m (r ++ dig 256 32 n) = false:=by
 unfold vfy
 rw [drop_app hr,dig_val (by decide) hn,decide_eq_false (show ¬ n < Lq by omega)]
 simp
theorem other_m {sd m m2:List Nat} (ha:sec sd % Lq ≠ 0) (h:wid (sr sd m ++ (ky sd ++ m2)) ≠ wid (sr sd m ++ (ky sd ++ m))):vfy (ky sd) m2 (sgn sd m) = false:=by
 rw [Bool.eq_false_iff]
 intro hv
 have h1:=vfy_kb sd m2 (dig 256 32 (ss sd m)) (wid (pre sd ++ m)) (dig_lo (by decide) 32 _) (dig_length _ _ _)
 unfold sgn sr at hv
 rw [h1,Bool.and_eq_true,decide_eq_true_iff,decide_eq_true_iff] at hv
 have hd:val 256 (dig 256 32 (ss sd m)) = ss sd m:=dig_val (by decide) (Nat.lt_trans (ss_lt sd m) Lq_lt32)
 have h2:=hv.2
 rw [hd,Nat.mod_eq_of_lt (ss_lt sd m),ss_eq] at h2
 unfold sr at h h2
 have l1:=wid_lt (kb (wid (pre sd ++ m)) ++ (ky sd ++ m))
 have l2:=wid_lt (kb (wid (pre sd ++ m)) ++ (ky sd ++ m2))
 generalize wid (kb (wid (pre sd ++ m)) ++ (ky sd ++ m)) = k1 at *
 generalize wid (kb (wid (pre sd ++ m)) ++ (ky sd ++ m2)) = k2 at *
 generalize wid (pre sd ++ m) = r at *
 generalize sec sd = a at *
 have key:∀ x y:Nat,x ≤ y → y < Lq → (r + x * a) % Lq = (r + y * a) % Lq → x = y:=fun x y hxy hy he=>by
  have e:r + y * a = (r + x * a) + (y - x) * a:=by rw [Nat.add_assoc,← Nat.add_mul,← show y = x + (y - x) by omega]
  have hdv:Lq ∣ (y - x) * a:=by
   rw [e] at he
   have h3:=Nat.sub_mod_eq_zero_of_mod_eq he.symm
   rw [Nat.add_sub_cancel_left] at h3
   exact Nat.dvd_of_mod_eq_zero h3
  rcases E.L_prime.euclid hdv with h4 | h4
  ·rcases Nat.eq_zero_or_pos (y - x) with h5 | h5
   ·omega
   ·exact absurd (Nat.le_of_dvd h5 h4) (by have:=Lq_L;omega)
  ·exact absurd (Nat.mod_eq_zero_of_dvd h4) ha
 rcases Nat.le_total k1 k2 with k | k
 ·exact h (key k1 k2 k l2 h2).symm
 ·exact h (key k2 k1 k l1 h2.symm)
end Go.Proofs.YtmjimilhomabfaaGreatDoor.F
