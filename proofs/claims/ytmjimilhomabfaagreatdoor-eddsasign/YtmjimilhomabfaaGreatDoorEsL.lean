/-
 Bytes in rows, hashes and wide numbers by letters; the variables together; over this seat. Conditions: each as it says.
-/
import Derived.Test.YtmjimilhomabfaaGreatDoorEsA
import Derived.Test.YtmjimilhomabfaaGreatDoorEsM
namespace Go.Proofs.YtmjimilhomabfaaGreatDoor.F
open Go.RowKit
set_option linter.unusedVariables false
set_option maxRecDepth 10000
open E (Pt padd pneg pmul)
structure TS (w:World):Prop where
 r:TR w
 b:TB w
 s:S3.Tab w
 o:Glob w 1 Lq
theorem TS.below {w w':World} (h:TS w) (hb:Below w.heap.size w w'):TS w':=⟨h.r.below hb,GlobC.below h.b hb,h.s.below hb,h.o.below hb⟩
theorem iB {l:List Nat} (h:l.length = 32):(Tryz.prog.info? 22).map (·.size) = some (C .u8 l).length:=by rw [C_length,h];exact i32
theorem i64:(Tryz.prog.info? 26).map (·.size) = some 64:=by kernel_rfl
theorem iW {l:List Nat} (h:l.length = 64):(Tryz.prog.info? 26).map (·.size) = some (C .u8 l).length:=by rw [C_length,h];exact i64
theorem zB {l m:List Nat} {n:Nat} (h:l.length = n) (k:m.length = n):(C .u8 l).length = (C .u8 m).length:=by rw [C_length,C_length,h,k]
theorem sl1:(Tryz.prog.info? 23).map (·.size) = some 1:=by kernel_rfl
theorem slz:((Tryz.prog.info? 23).bind (·.zero)).isSome = true:=by kernel_rfl
section
variable {w:World} {g:Nat} {t:TypeId} {l:List Nat}
theorem slB (h:Row w g t (C .u8 l)) {n:Nat} (hl:l.length = n) (hn:n ≤ 64):SlV w (.slice (some ⟨g,0,none⟩) n n) (C .u8 l):=by
 have h2:=h.slAll (by rw [C_length,hl];unfold maxLen;omega)
 rw [C_length,hl] at h2
 exact h2
theorem slLo (h:Row w g t (C .u8 l)) (hl:l.length = 64):SlV w (.slice (some ⟨g,0,none⟩) 32 64) (C .u8 (l.take 32)):=by
 have h2:=h.sl 0 32 64 (by rw [C_length,hl];decide) (by decide) (by unfold maxLen;decide)
 rw [List.drop_zero,← C_take] at h2
 exact h2
theorem slHi (h:Row w g t (C .u8 l)) (hl:l.length = 64):SlV w (.slice (some ⟨g,32,none⟩) 32 32) (C .u8 (l.drop 32)):=by
 have h2:=h.sl 32 32 32 (by rw [C_length,hl];decide) (by decide) (by unfold maxLen;decide)
 rw [List.take_of_length_le (by rw [List.length_drop,C_length,hl];decide),← C_drop] at h2
 exact h2
end
theorem sl8:(Tryz.prog.info? 5).map (·.size) = some 1:=by kernel_rfl
theorem uz8:((Tryz.prog.info? 5).bind (·.zero)).isSome = true:=by kernel_rfl
theorem cp_hi {F S:List Nat} (h:F.length = 32):(F ++ Z 32).take 32 ++ (S ++ (F ++ Z 32).drop (32 + 32)) = F ++ S:=by
 rw [← h,List.take_left,List.drop_of_length_le (by rw [List.length_append,Z_length];omega),List.append_nil]
theorem lLo {l:List Nat} (h:l.length = 64):(l.take 32).length = 32:=by rw [List.length_take,h];rfl
theorem lHi {l:List Nat} (h:l.length = 64):(l.drop 32).length = 32:=by rw [List.length_drop,h]
theorem cLo {l:List Nat} (h:l.length = 64):(C .u8 (l.take 32)).length = 32:=by rw [C_length,lLo h]
theorem cHi {l:List Nat} (h:l.length = 64):(C .u8 (l.drop 32)).length = 32:=by rw [C_length,lHi h]
theorem slv_shape {w:World} {v:Value} {xs:List Value} (h:SlV w v xs):∃ a m c,v = .slice a m c:=by obtain ⟨a,c,e,_⟩:=h;exact ⟨a,_,c,e⟩
theorem parts1 {w:World} {g:Nat} {v1:Value} {A1:List Nat} (hr:Row w g 23 [v1]) (h1:SlV w v1 (C .u8 A1)) (o1:Lo 256 A1):Parts w g [v1] [A1]:=by
 refine ⟨hr,rfl,fun i hi=>?_,fun i hi=>?_⟩
 ·obtain rfl:=(by simpa using hi:i < 1) |> fun h=>(by omega:i = 0)
  ·obtain ⟨a,m,c,rfl⟩:=slv_shape h1
   exact ⟨a,m,c,rfl,h1⟩
 ·obtain rfl:=(by simpa using hi:i < 1) |> fun h=>(by omega:i = 0)
  ·exact o1
theorem parts2 {w:World} {g:Nat} {v1 v2:Value} {A1 A2:List Nat} (hr:Row w g 23 [v1,v2]) (h1:SlV w v1 (C .u8 A1)) (h2:SlV w v2 (C .u8 A2)) (o1:Lo 256 A1) (o2:Lo 256 A2):Parts w g [v1,v2] [A1,A2]:=by
 refine ⟨hr,rfl,fun i hi=>?_,fun i hi=>?_⟩
 ·obtain rfl | rfl:=(by simpa using hi:i < 2) |> fun h=>(by omega:i = 0 ∨ i = 1)
  ·obtain ⟨a,m,c,rfl⟩:=slv_shape h1
   exact ⟨a,m,c,rfl,h1⟩
  ·obtain ⟨a,m,c,rfl⟩:=slv_shape h2
   exact ⟨a,m,c,rfl,h2⟩
 ·obtain rfl | rfl:=(by simpa using hi:i < 2) |> fun h=>(by omega:i = 0 ∨ i = 1)
  ·exact o1
  ·exact o2
theorem parts3 {w:World} {g:Nat} {v1 v2 v3:Value} {A1 A2 A3:List Nat} (hr:Row w g 23 [v1,v2,v3]) (h1:SlV w v1 (C .u8 A1)) (h2:SlV w v2 (C .u8 A2)) (h3:SlV w v3 (C .u8 A3)) (o1:Lo 256 A1) (o2:Lo 256 A2) (o3:Lo 256 A3):Parts w g [v1,v2,v3] [A1,A2,A3]:=by
 refine ⟨hr,rfl,fun i hi=>?_,fun i hi=>?_⟩
 ·obtain rfl | rfl | rfl:=(by simpa using hi:i < 3) |> fun h=>(by omega:i = 0 ∨ i = 1 ∨ i = 2)
  ·obtain ⟨a,m,c,rfl⟩:=slv_shape h1
   exact ⟨a,m,c,rfl,h1⟩
  ·obtain ⟨a,m,c,rfl⟩:=slv_shape h2
   exact ⟨a,m,c,rfl,h2⟩
  ·obtain ⟨a,m,c,rfl⟩:=slv_shape h3
   exact ⟨a,m,c,rfl,h3⟩
 ·obtain rfl | rfl | rfl:=(by simpa using hi:i < 3) |> fun h=>(by omega:i = 0 ∨ i = 1 ∨ i = 2)
  ·exact o1
  ·exact o2
  ·exact o3
theorem hash1_let (A1:List Nat) (o1:Lo 256 A1) (lm:(A1).length ≤ 100000):∃ H,Away (h5 (A1) = H) ∧ H.length = 64 ∧ Lo 256 H ∧ ∀ (g:Nat) (v1:Value) (w:World),Row w g 23 [v1] → SlV w v1 (C .u8 A1) → TS w → Calls Tryz.prog 24 #[.slice (some ⟨g,0,none⟩) 1 1] w fun e w'=>e = .returned (.agg (C .u8 H).toArray) ∧ Below w.heap.size w w' :=
 ⟨_,⟨rfl⟩,h5_length _,h5_lo _,fun g v1 w hr h1 hT=>by
  have h:=hashed_any g 1 _ [A1] w (parts1 hr h1 o1) rfl (by decide) (by simp at *;omega) hT.s
  rw [show [A1].flatten = A1 by simp] at h
  exact h⟩
theorem hash2_let (A1 A2:List Nat) (o1:Lo 256 A1) (o2:Lo 256 A2) (lm:(A1 ++ (A2)).length ≤ 100000):∃ H,Away (h5 (A1 ++ (A2)) = H) ∧ H.length = 64 ∧ Lo 256 H ∧ ∀ (g:Nat) (v1 v2:Value) (w:World),Row w g 23 [v1,v2] → SlV w v1 (C .u8 A1) → SlV w v2 (C .u8 A2) → TS w → Calls Tryz.prog 24 #[.slice (some ⟨g,0,none⟩) 2 2] w fun e w'=>e = .returned (.agg (C .u8 H).toArray) ∧ Below w.heap.size w w' :=
 ⟨_,⟨rfl⟩,h5_length _,h5_lo _,fun g v1 v2 w hr h1 h2 hT=>by
  have h:=hashed_any g 2 _ [A1,A2] w (parts2 hr h1 h2 o1 o2) rfl (by decide) (by simp at *;omega) hT.s
  rw [show [A1,A2].flatten = A1 ++ (A2) by simp] at h
  exact h⟩
theorem hash3_let (A1 A2 A3:List Nat) (o1:Lo 256 A1) (o2:Lo 256 A2) (o3:Lo 256 A3) (lm:(A1 ++ (A2 ++ (A3))).length ≤ 100000):∃ H,Away (h5 (A1 ++ (A2 ++ (A3))) = H) ∧ H.length = 64 ∧ Lo 256 H ∧ ∀ (g:Nat) (v1 v2 v3:Value) (w:World),Row w g 23 [v1,v2,v3] → SlV w v1 (C .u8 A1) → SlV w v2 (C .u8 A2) → SlV w v3 (C .u8 A3) → TS w → Calls Tryz.prog 24 #[.slice (some ⟨g,0,none⟩) 3 3] w fun e w'=>e = .returned (.agg (C .u8 H).toArray) ∧ Below w.heap.size w w' :=
 ⟨_,⟨rfl⟩,h5_length _,h5_lo _,fun g v1 v2 v3 w hr h1 h2 h3 hT=>by
  have h:=hashed_any g 3 _ [A1,A2,A3] w (parts3 hr h1 h2 h3 o1 o2 o3) rfl (by decide) (by simp at *;omega) hT.s
  rw [show [A1,A2,A3].flatten = A1 ++ (A2 ++ (A3)) by simp] at h
  exact h⟩
theorem wide_let (H:List Nat) (oH:Lo 256 H) (lH:H.length = 64):∃ n,Away (val 256 H % Lq = n) ∧ n < 115792089237316195423570985008687907853269984665640564039457584007913129639936 ∧ ∀ w:World,TS w → Calls Tryz.prog 23 #[.agg (C .u8 H).toArray] w fun e w'=>e = .returned (.agg (ec n).toArray) ∧ Below w.heap.size w w' :=
 ⟨_,⟨rfl⟩,mod_Lq_T _,fun w hT=>swide_any H oH lH w hT.o⟩
end Go.Proofs.YtmjimilhomabfaaGreatDoor.F
