/-
 A row that is appended to beside a call's own blocks: over any program. Conditions: each as it says.
-/
import Derived.Test.YtmjimilhomabfaaGreatDoorKit16
namespace Go.Proofs.YtmjimilhomabfaaGreatDoor
open Go.RowKit
set_option linter.unusedVariables false
structure Ow (w0 w:World) (rows:List Cell3) (e:TypeId) (v:Value) (n:Nat) (xs:List Value):Prop where
 h:Fr w0 w rows
 o:w.ownsRow w0.heap.size e 1 v n xs
 ne:∀ r ∈ rows,v.ownBlock ≠ some r.1
section
variable {w0 w w':World} {rows:List Cell3} {e:TypeId} {v v':Value} {n m:Nat} {xs zs:List Value}
theorem Fr.in_lt (h:Fr w0 w rows) {r:Cell3} (hr:r ∈ rows):r.1 < w.heap.size:=(h.all r hr).lt
theorem Ow.empty (h:Fr w0 w rows) (e:TypeId):Ow w0 (w.alloc (.cells #[] e)) rows e (.slice (some ⟨w.heap.size,0,none⟩) 0 0) 0 []:=by
 have hb:Below w.heap.size w (w.alloc (.cells #[] e)):=(Below.refl _ _).alloc (Nat.le_refl _) _
 refine ⟨h.below hb,own_empty w _ e h.bel.size,fun r hr he=>?_⟩
 have:=h.in_lt hr
 injection he with he
 have he:w.heap.size = r.1:=he
 omega
theorem Ow.app (h:Ow w0 w rows e v n xs) (ho:w'.ownsRow w0.heap.size e 1 v' m zs) (hg:w.grownBy w' v.ownBlock) (hw:v'.ownBlock = v.ownBlock ∨ v'.ownBlock = some w.heap.size):Ow w0 w' rows e v' m zs:=by
 refine ⟨⟨grown_below h.h.bel (Nat.le_refl _) hg (fun k hk=>(own_block h.o k hk).1),fun r hr=>(h.h.all r hr).grown hg (fun e2=>h.ne r hr e2.symm),h.h.old,h.h.nd⟩,ho,fun r hr he=>?_⟩
 rcases hw with h2 | h2
 ·exact h.ne r hr (h2 ▸ he)
 ·have:=h.h.in_lt hr
  rw [h2] at he
  injection he with he
  omega
theorem Ow.below (h:Ow w0 w rows e v n xs) (hb:Below w.heap.size w w'):Ow w0 w' rows e v n xs:=⟨h.h.below hb,own_below h.o hb,h.ne⟩
theorem Ow.more (h:Ow w0 w rows e v n xs) (k:Nat) (t:TypeId) (us:List Value):∃ g,w.heap.size = g ∧ Ow w0 (w.alloc (.cells us.toArray t)) (rows.take k ++ (g,t,us) :: rows.drop k) e v n xs:=by
 obtain ⟨g,hg,hq⟩:=h.h.more k t us
 refine ⟨g,hg,hq,own_below h.o ((Below.refl _ _).alloc (Nat.le_refl _) _),fun r hr he=>?_⟩
 rcases List.mem_append.1 hr with h2 | h2
 ·exact h.ne r (List.mem_of_mem_take h2) he
 ·rcases List.mem_cons.1 h2 with rfl | h2
  ·have:=(own_block h.o _ he).2
   have:g < w.heap.size:=this
   omega
  ·exact h.ne r (List.mem_of_mem_drop h2) he
theorem Fr.add {g:Nat} {t:TypeId} {us:List Value} (h:Fr w0 w rows) (hb:Below w.heap.size w w') (hr:Row w' g t us) (hg:w.heap.size ≤ g):Fr w0 w' (rows ++ [(g,t,us)]):=by
 have h2:=h.below hb
 have h3:=h.bel.size
 refine ⟨h2.bel,fun r hr2=>?_,fun r hr2=>?_,?_⟩
 ·rcases List.mem_append.1 hr2 with k | k
  ·exact h2.all r k
  ·simp only [List.mem_singleton] at k
   subst k
   exact hr
 ·rcases List.mem_append.1 hr2 with k | k
  ·exact h2.old r k
  ·simp only [List.mem_singleton] at k
   subst k
   exact Nat.le_trans h3 hg
 ·rw [List.map_append,List.nodup_append]
  refine ⟨h.nd,by simp,fun a ha b hb2 e2=>?_⟩
  simp only [List.map_cons,List.map_nil,List.mem_singleton] at hb2
  obtain ⟨r,hr2,rfl⟩:=List.mem_map.1 ha
  have:=h.in_lt hr2
  omega
theorem Ow.row (h:Ow w0 w rows e v n xs) (hp:0 < n):∃ g cap rest,v = .slice (some ⟨g,0,none⟩) n cap ∧ n ≤ cap ∧ cap ≤ maxLen ∧ Fr w0 w (rows ++ [(g,e,xs ++ rest)]):=by
 obtain ⟨hl,⟨_,h0⟩ | ⟨g,cap,cur,rfl,hb,hc,h1,h2,h3,h4⟩⟩:=h.o
 ·omega
 ·rw [Nat.mul_one] at h4
  refine ⟨g,cap,cur.toList.drop n,rfl,h1,h2,h.h.bel,fun r hr=>?_,fun r hr=>?_,?_⟩
  ·rcases List.mem_append.1 hr with k | k
   ·exact h.h.all r k
   ·simp only [List.mem_singleton] at k
    subst k
    show Row w g e (xs ++ cur.toList.drop n)
    unfold Row
    rw [hc,← h4,List.take_append_drop]
  ·rcases List.mem_append.1 hr with k | k
   ·exact h.h.old r k
   ·simp only [List.mem_singleton] at k
    subst k
    exact hb
  ·rw [List.map_append,List.nodup_append]
   refine ⟨h.h.nd,by simp,fun a ha b hb2 e2=>?_⟩
   simp only [List.map_cons,List.map_nil,List.mem_singleton] at hb2
   obtain ⟨r,hr,rfl⟩:=List.mem_map.1 ha
   exact h.ne r hr (by rw [e2,hb2];rfl)
theorem Ow.drew (h:Ow w0 w rows e v n xs):Ow w0 w.drew rows e v n xs:=h.below ⟨rfl,rfl,rfl,Nat.le_refl _,fun _ _=>rfl⟩
theorem Ow.fewer (h:Ow w0 w rows e v n xs) (k:Nat):Ow w0 w (rows.take k) e v n xs :=
 ⟨⟨h.h.bel,fun r hr=>h.h.all r (List.mem_of_mem_take hr),fun r hr=>h.h.old r (List.mem_of_mem_take hr),by rw [List.map_take];exact (List.take_sublist _ _).nodup h.h.nd⟩,h.o,fun r hr=>h.ne r (List.mem_of_mem_take hr)⟩
end
theorem row_sl {w:World} {g:Nat} {t:TypeId} {l:List Nat} {rest:List Value} {n cap:Nat} (h:Row w g t (C .u8 l ++ rest)) (hl:l.length = n) (h1:n ≤ cap) (h2:cap ≤ maxLen):SlV w (.slice (some ⟨g,0,none⟩) n cap) (C .u8 l):=by
 have h3:=h.sl 0 n cap (by rw [List.length_append,C_length];omega) h1 h2
 rw [List.drop_zero,List.take_append_of_le_length (by rw [C_length];omega),List.take_of_length_le (by rw [C_length];omega)] at h3
 exact h3
theorem row_sl32 {w:World} {g:Nat} {t:TypeId} {l:List Nat} {rest:List Value} {cap:Nat} (h:Row w g t (C .u8 l ++ rest)) (hl:l.length = 64) (h1:32 ≤ cap) (h2:cap ≤ maxLen):SlV w (.slice (some ⟨g,32,none⟩) 32 cap) (C .u8 (l.drop 32)):=by
 have h3:=h.sl 32 32 cap (by rw [List.length_append,C_length];omega) h1 h2
 rw [List.drop_append_of_le_length (by rw [C_length];omega),List.take_append_of_le_length (by rw [List.length_drop,C_length];omega),List.take_of_length_le (by rw [List.length_drop,C_length];omega),← C_drop] at h3
 exact h3
end Go.Proofs.YtmjimilhomabfaaGreatDoor
