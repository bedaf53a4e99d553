/-
 What the package's variables hold; scaled points as values and blocks; points compared; over this seat's translation. Conditions: each as it says.
-/
import Derived.Test.YtmjimilhomabfaaGreatDoorE13a
import Derived.Test.YtmjimilhomabfaaGreatDoorM13
namespace Go.Proofs.YtmjimilhomabfaaGreatDoor.F
open Go.RowKit
set_option linter.unusedVariables false
set_option maxRecDepth 10000
open E (z z_val z_same z_add z_mul z_sub z_inv z_mod z_of dd Pt padd pneg pmul iv ax ay)
def GlobC (w:World) (g:Nat) (us:List Value):Prop:=∃ t f,w.heap[g]? = some (.cells us.toArray t f)
theorem GlobC.lt {w:World} {g:Nat} {us:List Value} (h:GlobC w g us):g < w.heap.size:=by
 obtain ⟨t,f,h⟩:=h
 exact (Array.getElem?_eq_some_iff.1 h).1
theorem GlobC.below {w w':World} {g:Nat} {us:List Value} (h:GlobC w g us) (hb:Below w.heap.size w w'):GlobC w' g us:=by
 have hl:=h.lt
 obtain ⟨t,f,h⟩:=h
 exact ⟨t,f,by rw [hb.block g hl];exact h⟩
theorem Glob.c {w:World} {g n:Nat} (h:Glob w g n):GlobC w g (ec n):=h
theorem exec_load_G {P:Program} {w:World} {o:Oper} {ev:Operand → Value} (ty:TypeId) (x:Operand) (ho:o.op = .load ty x) {g:Nat} (hx:ev x = .pointer (some ⟨g,0,none⟩)) {us:List Value} (hg:GlobC w g us) {d:TypeDesc}
  (hu:P.underlying ty = some d) (hd:(match d with | .struct _ | .array _ _=>true | _=>false) = true) (hi:(P.info? ty).map (·.size) = some us.length):(execOp ev o).run P w = .ok (.value (.agg us.toArray)) w:=by
 obtain ⟨t,f,hg⟩:=hg
 have h:=run_loadVar_row (P:=P) w g t ty us.toArray f _ hg hu hd (by simpa using hi)
 unfold execOp
 simp only [ho,hx,Instr.loadAt,Instr.sureAddr,Sem.run_bind,Sem.run_pure,Result.andThen_ok,h]
theorem wpList_load_G {P:Program} {ops:Array Oper} {rest:List Oper} {o:Oper} {a:Act} {w:World} {Q:Exit → Act → World → Prop} (hgd:o.guard = none) (ty:TypeId) (x:Operand) (ho:o.op = .load ty x)
  {g:Nat} (hx:a.eval x = .pointer (some ⟨g,0,none⟩)) {us:List Value} (hg:GlobC w g us) {d:TypeDesc} (hu:P.underlying ty = some d) (hd:(match d with | .struct _ | .array _ _=>true | _=>false) = true) (hi:(P.info? ty).map (·.size) = some us.length)
  (h:wpList P ops Q rest (a.put o.dst (.agg us.toArray)) w):wpList P ops Q (o :: rest) a w :=
 wpList_plain hgd fun _ hK=>by
  unfold Oper.wp
  rw [exec_load_G ty x ho hx hg hu hd hi]
  exact hK _ _ h
abbrev Bx:Nat:=15112221349535400772501151409588531511454012693041857206046113283949847762202
abbrev By:Nat:=46316835694926478169428394003475163141307993866256225615783033603165251855960
structure TE (w:World):Prop where
 p:Tab w
 d:Glob w 4 Dn
structure TI (w:World):Prop where
 e:TE w
 v:Glob w 6 (P - 2)
structure TR (w:World):Prop where
 i:TI w
 r:Tabs w
theorem TE.below {w w':World} (h:TE w) (hb:Below w.heap.size w w'):TE w':=⟨h.p.below hb,h.d.below hb⟩
theorem TI.below {w w':World} (h:TI w) (hb:Below w.heap.size w w'):TI w':=⟨h.e.below hb,h.v.below hb⟩
theorem TR.below {w w':World} (h:TR w) (hb:Below w.heap.size w w'):TR w':=⟨h.i.below hb,h.r.below hb⟩
theorem elMul (A B:Nat) (lA:A < 115792089237316195423570985008687907853269984665640564039457584007913129639936) (lB:B < 115792089237316195423570985008687907853269984665640564039457584007913129639936):∃ n,Away (A * B % P = n) ∧ n < 115792089237316195423570985008687907853269984665640564039457584007913129639936 ∧ ∀ (w:World),Tab w → Calls Tryz.prog 110 #[.agg (ec A).toArray,.agg (ec B).toArray] w fun e w'=>e = .returned (.agg (ec n).toArray) ∧ Below w.heap.size w w':=⟨_,⟨rfl⟩,mod_lt_T _,fun w hT=>fmul_el A B lA lB w hT⟩
theorem elAdd (A B:Nat) (lA:A < 115792089237316195423570985008687907853269984665640564039457584007913129639936) (lB:B < 115792089237316195423570985008687907853269984665640564039457584007913129639936):∃ n,Away ((A + B) % P = n) ∧ n < 115792089237316195423570985008687907853269984665640564039457584007913129639936 ∧ ∀ (w:World),Tab w → Calls Tryz.prog 113 #[.agg (ec A).toArray,.agg (ec B).toArray] w fun e w'=>e = .returned (.agg (ec n).toArray) ∧ Below w.heap.size w w':=⟨_,⟨rfl⟩,mod_lt_T _,fun w hT=>fadd_el A B lA lB w hT⟩
theorem elSub (A B:Nat) (lA:A < 115792089237316195423570985008687907853269984665640564039457584007913129639936) (lB:B < 115792089237316195423570985008687907853269984665640564039457584007913129639936):∃ n,Away ((A % P + (P - B % P)) % P = n) ∧ n < 115792089237316195423570985008687907853269984665640564039457584007913129639936 ∧ ∀ (w:World),Tab w → Calls Tryz.prog 112 #[.agg (ec A).toArray,.agg (ec B).toArray] w fun e w'=>e = .returned (.agg (ec n).toArray) ∧ Below w.heap.size w w':=⟨_,⟨rfl⟩,mod_lt_T _,fun w hT=>fsub_el A B lA lB w hT⟩
theorem elInv (A:Nat) (lA:A < 115792089237316195423570985008687907853269984665640564039457584007913129639936):∃ n,Away (A ^ (P - 2) % P = n) ∧ n < 115792089237316195423570985008687907853269984665640564039457584007913129639936 ∧ ∀ (w:World),TI w → Calls Tryz.prog 114 #[.agg (ec A).toArray] w fun e w'=>e = .returned (.agg (ec n).toArray) ∧ Below w.heap.size w w':=⟨_,⟨rfl⟩,mod_lt_T _,fun w hT=>finv_el A lA w hT.e.p hT.v⟩
abbrev TB (w:World):Prop:=GlobC w 0 (pc Bx By)
def sc (A B M N:Nat):List Value:=ec A ++ (ec B ++ (ec M ++ ec N))
theorem sc_length (A B M N:Nat):(sc A B M N).length = 16:=rfl
theorem sc_all (A B M N:Nat):(sc A B M N).all (·.oneCell') = true:=by unfold sc;rw [List.all_append,List.all_append,List.all_append,ec_all,ec_all,ec_all,ec_all];rfl
theorem zSw (w:World):(zeroValue 81).run Tryz.prog w = .ok (.agg (sc 0 0 0 0).toArray) w:=by kernel_rfl
theorem iS (A B M N:Nat):(Tryz.prog.info? 81).map (·.size) = some (sc A B M N).length:=by rw [sc_length];kernel_rfl
theorem sc_0 {w:World} {g:Nat} {t:TypeId} {A B M N:Nat} (h:Row w g t (sc A B M N)):Row w g t ([] ++ (ec A ++ (ec B ++ (ec M ++ ec N)))):=h
theorem sc_1 {w:World} {g:Nat} {t:TypeId} {A B M N:Nat} (h:Row w g t (sc A B M N)):Row w g t (ec A ++ (ec B ++ (ec M ++ ec N))):=h
theorem sc_2 {w:World} {g:Nat} {t:TypeId} {A B M N:Nat} (h:Row w g t (sc A B M N)):Row w g t ((ec A ++ ec B) ++ (ec M ++ ec N)):=by rw [List.append_assoc];exact h
theorem sc_3 {w:World} {g:Nat} {t:TypeId} {A B M N:Nat} (h:Row w g t (sc A B M N)):Row w g t ((ec A ++ (ec B ++ ec M)) ++ (ec N ++ [])):=by rw [List.append_nil,List.append_assoc,List.append_assoc];exact h
def eqB (p q:Pt):Bool:=decide (p.x.val = q.x.val) && decide (p.y.val = q.y.val)
end Go.Proofs.YtmjimilhomabfaaGreatDoor.F
