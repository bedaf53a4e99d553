/-
 The live question of signatures, by the kernel: of 32 noughts, and the messages 1 and 2. No conditions.
-/
import Derived.Test.YtmjimilhomabfaaGreatDoorEsM
namespace Go.Proofs.YtmjimilhomabfaaGreatDoor.F
open Go.RowKit
set_option linter.unusedVariables false
set_option maxRecDepth 10000
open E (z z_of Pt padd pneg pmul tmul Rep no_zero)
def lit (n:Nat) (x y:E.Z):Bool:=decide (n < 2 ^ 256) && (match tmul 256 n (E.Bp.x,E.Bp.y,1) with | (a,b,c)=>decide (x * c = a) && decide (y * c = b))
theorem cancel_z {a b c:E.Z} (hc:c ≠ 0) (h:a * c = b * c):a = b:=by
 have h2:(a - b) * c = 0:=by generalize c = t at *;grind
 rcases E.no_zero h2 with h3 | h3
 ·grind
 ·exact absurd h3 hc
theorem lit_ok {n:Nat} {x y:E.Z} (h:lit n x y = true):(pmul n Bpt).x = x ∧ (pmul n Bpt).y = y:=by
 rw [show Bpt = E.Bp from Pt.same (Fin.ext Bpt_x) (Fin.ext Bpt_y)]
 unfold lit at h
 rw [Bool.and_eq_true,decide_eq_true_iff] at h
 have hr:=Rep.mul 256 n h.1 (Rep.one E.Bp)
 have h2:=h.2
 generalize tmul 256 n (E.Bp.x,E.Bp.y,1) = t at *
 obtain ⟨a,b,c⟩:=t
 simp only [Bool.and_eq_true,decide_eq_true_iff] at h2
 obtain ⟨hz,hx,hy⟩:=hr
 simp only at hz hx hy
 exact ⟨(cancel_z hz (h2.1.trans hx)).symm,(cancel_z hz (h2.2.trans hy)).symm⟩
theorem kb_lit {n X Y:Nat} {b:List Nat} (h:lit n (z X) (z Y) = true) (hb:(if X % P % 2 = 1 then (dig 256 32 (Y % P)).set 31 ((dig 256 32 (Y % P)).getD 31 0 + 128) else dig 256 32 (Y % P)) = b):kb n = b:=by
 obtain ⟨h1,h2⟩:=lit_ok h
 unfold kb pk
 rw [h1,h2,E.z_val,E.z_val]
 exact hb
theorem h_seed:h5 (Z 32) = [80,70,173,193,219,168,56,134,123,43,187,253,208,195,66,62,88,181,121,112,181,38,122,144,245,121,96,146,74,135,241,150,10,106,133,234,166,66,218,200,53,66,75,93,124,141,99,124,0,64,140,122,115,218,103,43,127,73,133,33,66,11,109,211]:=by decide +kernel
theorem sec_seed:sec (Z 32) = 39325648866980652792715009169219496062012184734522019333892538943312776480336:=by unfold sec;rw [h_seed];decide +kernel
theorem pre_seed:pre (Z 32) = [10,106,133,234,166,66,218,200,53,66,75,93,124,141,99,124,0,64,140,122,115,218,103,43,127,73,133,33,66,11,109,211]:=by unfold pre;rw [h_seed];decide +kernel
theorem r_seed:wid (pre (Z 32) ++ [1]) = 4738182611566081019010582300122562702738567133798330536900608458996997961835:=by rw [pre_seed];decide +kernel
theorem kb_r:kb 4738182611566081019010582300122562702738567133798330536900608458996997961835 = [25,72,19,231,15,54,164,98,48,114,200,197,3,176,192,39,247,242,140,206,29,231,58,96,183,42,168,3,115,64,192,119]:=kb_lit (X:=54631546378658030500807947893887828895204276493781736917897287077311592920232) (Y:=54164908430391328034991733979104458275984004766071212589957762404063229724697) (by decide +kernel) (by decide +kernel)
theorem kb_a:kb 39325648866980652792715009169219496062012184734522019333892538943312776480336 = [59,106,39,188,206,182,164,45,98,163,168,208,42,111,13,115,101,50,21,119,29,226,67,166,58,192,72,161,139,89,218,41]:=kb_lit (X:=9639205628789703341510410801487549615560488670885798085067615194958049462616) (Y:=18930617471878267742194159801949745215346600387277955685031939302387136031291) (by decide +kernel) (by decide +kernel)
theorem sr_seed:sr (Z 32) [1] = [25,72,19,231,15,54,164,98,48,114,200,197,3,176,192,39,247,242,140,206,29,231,58,96,183,42,168,3,115,64,192,119]:=by unfold sr;rw [r_seed,kb_r]
theorem ky_seed:ky (Z 32) = [59,106,39,188,206,182,164,45,98,163,168,208,42,111,13,115,101,50,21,119,29,226,67,166,58,192,72,161,139,89,218,41]:=by unfold ky;rw [sec_seed,kb_a]
theorem two_not:vfy (ky (Z 32)) [2] (sgn (Z 32) [1]) = false:=other_m (by rw [sec_seed];decide +kernel) (by rw [sr_seed,ky_seed];decide +kernel)
end Go.Proofs.YtmjimilhomabfaaGreatDoor.F
