/-
 Points and bytes: what is unpacked is a point, packed as those bytes; a point is unpacked as it was packed. No conditions but what each says.
-/
import Derived.Test.YtmjimilhomabfaaGreatDoorEpU
namespace Go.Proofs.YtmjimilhomabfaaGreatDoor.F
open Go.RowKit
set_option linter.unusedVariables false
set_option maxRecDepth 10000
open E (z z_val z_same z_add z_mul z_sub z_inv z_mod z_of dd Pt padd pneg pmul iv ax ay Sc)
theorem sqx_z (N:Nat):z (sqx N) = (z N * z N - 1) * iv (dd * (z N * z N) + 1):=by
 rw [sqx,z_mul,z_sub,z_mul,z_inv,z_add,z_mul,z_mul,z_D]
 rfl
theorem getD_setx {l:List Nat} {i:Nat} (h:i < l.length) (v:Nat):(l.set i v).getD i 0 = v:=by
 rw [List.getD_eq_getElem?_getD,List.getElem?_set_self h,Option.getD_some]
theorem square_lt {r s:Nat} (h:z (r * r % P) = z s):r * r % P = s % P:=by
 have:=z_same.1 h
 rwa [Nat.mod_mod] at this
theorem unOk_point {odd:Bool} {N:Nat} (h:unOk odd N = true):∃ p:Pt,p.y.val = N ∧ p.x.val = unX odd N ∧ decide (p.x.val % 2 = 1) = odd:=by
 have hP:=P_odd
 rw [unOk,Bool.and_eq_true,Bool.and_eq_true,decide_eq_true_iff] at h
 obtain ⟨hN,h2,h3⟩:=h
 obtain ⟨k1,k2,k3⟩:=rt_true h2
 have hx:unX odd N = if odd = true then (0 % P + (P - (rt (sqx N)).1 % P)) % P else (rt (sqx N)).1:=rfl
 obtain ⟨s,hs⟩:∃ s,sqx N = s:=⟨_,rfl⟩
 have hz:=sqx_z N
 rw [hs] at h2 h3 hx k1 k2 k3 hz
 obtain ⟨r,hr⟩:∃ r,(rt s).1 = r:=⟨_,rfl⟩
 rw [hr] at h3 hx k1 k2 k3
 have e:z r * z r = z s:=by rw [← z_mul];exact z_same.2 (by rw [Nat.mod_mod];exact k3)
 rw [Nat.mod_eq_of_lt k1,Nat.zero_mod,Nat.zero_add] at hx
 cases odd
 ·rw [if_neg (by decide)] at hx
  refine ⟨⟨z r,z N,E.on_of (by rw [e,hz])⟩,z_valz hN,?_,?_⟩
  ·show (z r).val = _
   rw [hx,z_valz k1]
  ·show decide ((z r).val % 2 = 1) = false
   rw [z_valz k1,decide_eq_false_iff_not];omega
 ·rw [if_pos rfl] at hx
  have hr0:r ≠ 0:=by
   intro h0
   rw [h0] at h3
   simp at h3
  have hlt:P - r < P:=by omega
  rw [Nat.mod_eq_of_lt hlt] at hx
  have en:z (P - r) = - z r:=by
   have:=z_sub 0 r
   rw [Nat.zero_mod,Nat.zero_add,Nat.mod_eq_of_lt k1,Nat.mod_eq_of_lt hlt,show z 0 = 0 from rfl] at this
   rw [this]
   generalize z r = t
   grind
  refine ⟨⟨z (P - r),z N,E.on_of (by rw [en,← hz,← e];generalize z r = t;grind)⟩,z_valz hN,?_,?_⟩
  ·show (z (P - r)).val = _
   rw [hx,z_valz hlt]
  ·show decide ((z (P - r)).val % 2 = 1) = true
   rw [z_valz hlt,decide_eq_true_iff];omega
theorem point_unOk (p:Pt):unOk (decide (p.x.val % 2 = 1)) p.y.val = true ∧ unX (decide (p.x.val % 2 = 1)) p.y.val = p.x.val:=by
 have hP:=P_odd
 have hx:p.x * p.x = z (sqx p.y.val):=by rw [sqx_z,z_of];exact E.x_square p.on
 obtain ⟨x,ex⟩:∃ x,p.x.val = x:=⟨_,rfl⟩
 have lx:x < P:=by rw [← ex];exact val_lt_P _
 have ez:z x = p.x:=by rw [← ex];exact z_of _
 have hy:p.y.val < P:=val_lt_P _
 rw [ex]
 have hu:∀ odd,unX odd p.y.val = if odd = true then (0 % P + (P - (rt (sqx p.y.val)).1 % P)) % P else (rt (sqx p.y.val)).1:=fun _=>rfl
 have ho:∀ odd,unOk odd p.y.val = (decide (p.y.val < P) && ((rt (sqx p.y.val)).2 && !(odd && decide ((rt (sqx p.y.val)).1 = 0)))):=fun _=>rfl
 obtain ⟨s,hs⟩:∃ s,sqx p.y.val = s:=⟨_,rfl⟩
 rw [hs] at hx
 simp only [hs] at hu ho
 by_cases hodd:x % 2 = 1
 ·have h0:x ≠ 0:=by omega
  have hlt:P - x < P:=by omega
  have en:z (P - x) = - p.x:=by
   have:=z_sub 0 x
   rw [Nat.zero_mod,Nat.zero_add,Nat.mod_eq_of_lt lx,Nat.mod_eq_of_lt hlt,show z 0 = 0 from rfl] at this
   rw [this,ez]
   generalize p.x = t
   grind
  have hr:=rt_only (a:=s) (r:=P - x) hlt (by omega) (square_lt (by rw [z_mul,en,← hx];generalize p.x = t;grind))
  rw [decide_eq_true hodd,ho,hu,hr,if_pos rfl]
  refine ⟨?_,?_⟩
  ·rw [decide_eq_true hy,decide_eq_false (show ¬ (P - x,true).1 = 0 by show ¬ P - x = 0;omega)]
   rfl
  ·show (0 % P + (P - (P - x) % P)) % P = x
   rw [Nat.mod_eq_of_lt hlt,Nat.zero_mod,Nat.zero_add,show P - (P - x) = x by omega,Nat.mod_eq_of_lt lx]
 ·have hr:=rt_only (a:=s) (r:=x) lx (by omega) (square_lt (by rw [z_mul,ez,hx]))
  rw [decide_eq_false hodd,ho,hu,hr,if_neg (by decide)]
  refine ⟨?_,rfl⟩
  rw [decide_eq_true hy]
  rfl
def pk (p:Pt):List Nat:=if p.x.val % 2 = 1 then (dig 256 32 p.y.val).set 31 ((dig 256 32 p.y.val).getD 31 0 + 128) else dig 256 32 p.y.val
theorem top_lt {y:Nat} (h:y < P):(dig 256 32 y).getD 31 0 < 128:=by
 rw [dig_getD (by decide)]
 have:y / 256 ^ 31 < 128:=Nat.div_lt_of_lt_mul (Nat.lt_trans h (by decide +kernel))
 omega
theorem set_same (l:List Nat) (i:Nat):l.set i (l.getD i 0) = l:=by
 by_cases h:i < l.length
 ·rw [List.getD_eq_getElem?_getD,List.getElem?_eq_getElem h,Option.getD_some,List.set_getElem_self]
 ·rw [List.set_eq_of_length_le (by omega)]
theorem pk_length (p:Pt):(pk p).length = 32:=by
 unfold pk
 split
 ·rw [List.length_set,dig_length]
 ·rw [dig_length]
theorem pk_lo (p:Pt):Lo 256 (pk p):=by
 have h:=top_lt (val_lt_P p.y)
 unfold pk
 split
 ·exact (dig_lo (by decide) 32 _).set _ _ (by omega)
 ·exact dig_lo (by decide) 32 _
theorem pk_hi (p:Pt):hiB (pk p) = decide (p.x.val % 2 = 1):=by
 have h:=top_lt (val_lt_P p.y)
 unfold hiB pk
 rw [decide_eq_decide]
 split
 ·rename_i ho
  rw [getD_setx (by rw [dig_length];decide)]
  omega
 ·omega
theorem pk_low (p:Pt):lowB (pk p) = p.y.val:=by
 have h:=top_lt (val_lt_P p.y)
 have hv:val 256 (dig 256 32 p.y.val) = p.y.val:=dig_val (by decide) (Nat.lt_trans (val_lt_P p.y) (by decide +kernel))
 unfold lowB pk
 split
 ·rename_i ho
  rw [getD_setx (by rw [dig_length];decide),List.set_set,Nat.add_mod_right,Nat.mod_eq_of_lt h,set_same,hv]
 ·rw [Nat.mod_eq_of_lt h,set_same,hv]
end Go.Proofs.YtmjimilhomabfaaGreatDoor.F
