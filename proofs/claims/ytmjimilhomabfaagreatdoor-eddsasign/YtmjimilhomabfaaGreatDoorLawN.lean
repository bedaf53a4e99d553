/-
 What the laws want: arguments opened, and the contracts over numbers, over this seat's translation. Conditions: each as it says.
-/
import Derived.Test.YtmjimilhomabfaaGreatDoorN14c
import Derived.Test.YtmjimilhomabfaaGreatDoorN14b
import Derived.Test.YtmjimilhomabfaaGreatDoorR14a
namespace Go.Proofs.YtmjimilhomabfaaGreatDoor
open Go.RowKit
set_option linter.unusedVariables false
set_option maxRecDepth 10000
def Num (w:World) (v:Value) (N K:Nat):Prop:=∃ xs,SlV w v (C .u32 xs) ∧ Lo W32 xs ∧ val W32 xs = N ∧ xs.length ≤ K
theorem Num.below {w w':World} {v:Value} {N K:Nat} (h:Num w v N K) (hb:Below w.heap.size w w'):Num w' v N K:=by
 obtain ⟨xs,h1,h2⟩:=h;exact ⟨xs,h1.below hb,h2⟩
theorem Num.lt {w:World} {v:Value} {N K:Nat} (h:Num w v N K):N < W32 ^ K:=by
 obtain ⟨xs,_,h2,h3,h4⟩:=h
 have:=val_lt (B:=W32) (by decide) h2
 rw [h3] at this
 exact Nat.lt_of_lt_of_le this (Nat.pow_le_pow_right (by decide) h4)
theorem RA.num {w:World} {v:Value} {N K:Nat} (h:RA w v N) (hN:N < W32 ^ K):Num w v N K:=by
 obtain ⟨zs,h1,h2⟩:=h
 exact ⟨zs,h2,h1.2.1,h1.1,(h1.len (by decide) K).2 hN⟩
theorem RA.zero {w:World} {v:Value} (h:RA w v 0):∃ a cap,v = .slice a 0 cap:=by
 obtain ⟨zs,h1,h2⟩:=h
 obtain ⟨a,cap,e,_,_⟩:=h2.shapeC (n:=0) (by rw [h1.zero (by decide)];rfl)
 exact ⟨a,cap,e⟩
theorem add_n {va vb:Value} {A B K L:Nat} (w:World) (ha:Num w va A K) (hb:Num w vb B L) (hK:K ≤ 1000) (hL:L ≤ 1000) :
  Calls Tryz.prog 57 #[va,vb] w fun e w'=>∃ v',e = .returned v' ∧ RA w' v' (A + B) ∧ Below w.heap.size w w':=by
 obtain ⟨xs,h1,h2,h3,h4⟩:=ha
 obtain ⟨ys,g1,g2,g3,g4⟩:=hb
 subst h3;subst g3
 exact (add_any va vb xs ys w h1 g1 h2 g2 (by omega) (by omega)).mono fun e w' ⟨v,he,ans,hbl⟩=>⟨v,he,ans.ra,hbl⟩
theorem mul_n {va vb:Value} {A B K L:Nat} (w:World) (ha:Num w va A K) (hb:Num w vb B L) (hK:K ≤ 1000) (hL:L ≤ 1000) :
  Calls Tryz.prog 59 #[va,vb] w fun e w'=>∃ v',e = .returned v' ∧ RA w' v' (A * B) ∧ Below w.heap.size w w':=by
 obtain ⟨xs,h1,h2,h3,h4⟩:=ha
 obtain ⟨ys,g1,g2,g3,g4⟩:=hb
 subst h3;subst g3
 exact (mul_any va vb xs ys w h1 g1 h2 g2 (by omega) (by omega)).mono fun e w' ⟨v,he,ans,hbl⟩=>⟨v,he,ans.ra,hbl⟩
end Go.Proofs.YtmjimilhomabfaaGreatDoor
