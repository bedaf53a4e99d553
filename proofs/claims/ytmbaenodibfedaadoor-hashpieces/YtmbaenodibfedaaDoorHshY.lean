/-
  What a hash tells is the document's padding hashed, block by block: mathematics over no program.
-/
import Derived.Test.YtmbaenodibfedaaDoorHshX
namespace Go.Proofs.YtmbaenodibfedaaDoor.S9
open Go.RowKit
set_option linter.unusedVariables false
set_option maxRecDepth 10000

theorem gbl1 (s : S1.S5) (p : List Nat) (n : Nat) : gbl S1.blk1 64 s p n = S1.blks1 s p n := by
  induction n with
  | zero => rfl
  | succ n ih => rw [gbl, S1.blks1, ih]
theorem gbl2 (s : S2.S8) (p : List Nat) (n : Nat) : gbl S2.blk2 64 s p n = S2.blks2 s p n := by
  induction n with
  | zero => rfl
  | succ n ih => rw [gbl, S2.blks2, ih]
theorem gbl3 (s : S3.S8) (p : List Nat) (n : Nat) : gbl S3.blk3 128 s p n = S3.blks3 s p n := by
  induction n with
  | zero => rfl
  | succ n ih => rw [gbl, S3.blks3, ih]
theorem pad1_eq (bs : List Nat) (h : bs.length < 1152921504606846976) : S1.pad1 bs = bs ++ pdg 64 8 bs.length := by
  have e1 : S1.zs1 bs.length = (64 - (bs.length + (8 + 1)) % 64) % 64 := by unfold S1.zs1; omega
  have e2 : 8 * bs.length % 18446744073709551616 = 8 * bs.length := by omega
  unfold S1.pad1 pdg
  rw [e1, e2]
  rfl
theorem pad3_eq (bs : List Nat) (h : bs.length < 1152921504606846976) : S3.pad3 bs = bs ++ pdg 128 16 bs.length := by
  have e1 : S3.zs3 bs.length = (128 - (bs.length + (16 + 1)) % 128) % 128 := by unfold S3.zs3; omega
  have e2 : 8 * bs.length % 18446744073709551616 = 8 * bs.length := by omega
  unfold S3.pad3 pdg
  rw [e1, e2]
  rfl
theorem tells1 (bs : List Nat) (h : bs.length < 1152921504606846976) : (S1.out1 (now S1.blk1 64 S1.start1 (bs ++ pdg 64 8 bs.length))).take 20 = dig 2 bs := by
  rw [← pad1_eq bs h, now, gbl1]
  exact List.take_of_length_le (Nat.le_refl _)
theorem tells2 (b : Bool) (bs : List Nat) (h : bs.length < 1152921504606846976) : S2.out2 (now S2.blk2 64 (S2.start2 b) (bs ++ pdg 64 8 bs.length)) = S2.sum2 b bs := by
  rw [← pad1_eq bs h, now, gbl2]
  rfl
theorem tells3 (b : Bool) (bs : List Nat) (h : bs.length < 1152921504606846976) : S3.out3 (now S3.blk3 128 (S3.start3 b) (bs ++ pdg 128 16 bs.length)) = S3.sum3 b bs := by
  rw [← pad3_eq bs h, now, gbl3]
  rfl
/-- Long or short. -/
def lg2 (a : Int) : Bool := decide (a = 8)
def lg3 (a : Int) : Bool := decide (a = 10)
theorem tells2a (a : Int) (ha : a = 8 ∨ a = 11) (bs : List Nat) (h : bs.length < 1152921504606846976) : (S2.out2 (now S2.blk2 64 (S2.start2 (lg2 a)) (bs ++ pdg 64 8 bs.length))).take (siz a) = dig a bs := by
  rw [tells2 _ _ h]
  rcases ha with rfl | rfl
  · exact List.take_of_length_le (Nat.le_of_eq (sum2_length true bs))
  · rfl
theorem tells3a (a : Int) (ha : a = 9 ∨ a = 10) (bs : List Nat) (h : bs.length < 1152921504606846976) : (S3.out3 (now S3.blk3 128 (S3.start3 (lg3 a)) (bs ++ pdg 128 16 bs.length))).take (siz a) = dig a bs := by
  rw [tells3 _ _ h]
  rcases ha with rfl | rfl
  · rfl
  · exact List.take_of_length_le (Nat.le_of_eq (sum3_length true bs))

/-- Block hp is a hash by algorithm a of the bytes bs; its struct lies in block q, what is behind the whole blocks in the row of v. -/
structure HI (w : World) (a : Int) (hp q : Nat) (v : Value) (bs : List Nat) : Prop where
  at2 : 2 ≤ hp
  kind : (a = 2 ∧ Row w hp 56 [.iface 75 (.pointer (some ⟨q, 0, none⟩))] ∧ W1.KI w q v S1.start1 bs bs.length 20) ∨
    ((a = 8 ∨ a = 11) ∧ Row w hp 56 [.iface 79 (.pointer (some ⟨q, 0, none⟩))] ∧ W2.KI w q v (S2.start2 (lg2 a)) bs bs.length (siz a)) ∨
    ((a = 9 ∨ a = 10) ∧ Row w hp 56 [.iface 83 (.pointer (some ⟨q, 0, none⟩))] ∧ W3.KI w q v (S3.start3 (lg3 a)) bs bs.length (siz a))
theorem HI.below {w w' : World} {a : Int} {hp q : Nat} {v : Value} {bs : List Nat} (h : HI w a hp q v bs) (hb : Below w.heap.size w w') : HI w' a hp q v bs := by
  obtain ⟨h2, ⟨ha, hr, hk⟩ | ⟨ha, hr, hk⟩ | ⟨ha, hr, hk⟩⟩ := h
  · exact ⟨h2, .inl ⟨ha, hr.belowS hb, hk.below hb⟩⟩
  · exact ⟨h2, .inr (.inl ⟨ha, hr.belowS hb, hk.below hb⟩)⟩
  · exact ⟨h2, .inr (.inr ⟨ha, hr.belowS hb, hk.below hb⟩)⟩
theorem HI.kp {w w' : World} {a : Int} {hp q q2 : Nat} {v : Value} {r : Option Nat} {bs : List Nat} (h : HI w a hp q v bs) (hk : Kp q2 r w w') (h0 : hp ≠ q2) (h0' : some hp ≠ r) (h1 : q ≠ q2) (h2 : some q ≠ r) (h3 : v.ownBlock ≠ some q2) (h4 : v.ownBlock = none ∨ v.ownBlock ≠ r) : HI w' a hp q v bs := by
  obtain ⟨h22, ⟨ha, hr, hq⟩ | ⟨ha, hr, hq⟩ | ⟨ha, hr, hq⟩⟩ := h
  · exact ⟨h22, .inl ⟨ha, hk.row hr h0 h0', hq.kp hk h1 h2 h3 h4⟩⟩
  · exact ⟨h22, .inr (.inl ⟨ha, hk.row hr h0 h0', hq.kp hk h1 h2 h3 h4⟩)⟩
  · exact ⟨h22, .inr (.inr ⟨ha, hk.row hr h0 h0', hq.kp hk h1 h2 h3 h4⟩)⟩
theorem HI.kn {w : World} {a : Int} {hp q : Nat} {v : Value} {bs : List Nat} (h : HI w a hp q v bs) : Kn a := by
  unfold Kn
  obtain ⟨_, ⟨ha, _⟩ | ⟨ha, _⟩ | ⟨ha, _⟩⟩ := h <;> omega
/-- Where its parts lie. -/
theorem HI.lt {w : World} {a : Int} {hp q : Nat} {v : Value} {bs : List Nat} (h : HI w a hp q v bs) : hp < w.heap.size ∧ q < w.heap.size ∧ 2 ≤ q ∧ (∀ k, v.ownBlock = some k → 2 ≤ k ∧ k < w.heap.size) ∧ hp ≠ q ∧ v.ownBlock ≠ some hp ∧ v.ownBlock ≠ some q := by
  have ne : ∀ {T : TypeId} {us vs : List Value}, Row w hp 56 us → Row w q T vs → T ≠ 56 → hp ≠ q := by
    intro T us vs h1 h2 h3 e
    subst e
    have := h1.symm.trans h2
    simp only [Option.some.injEq, Obj.cells.injEq] at this
    exact h3 this.2.1.symm
  obtain ⟨_, ⟨ha, hr, hk⟩ | ⟨ha, hr, hk⟩ | ⟨ha, hr, hk⟩⟩ := h
  · exact ⟨hr.lt, hk.row.lt, hk.at2, fun k e => hk.own.lt k e, ne hr hk.row (by decide), own_ne hk.own hr (by decide), own_ne hk.own hk.row (by decide)⟩
  · exact ⟨hr.lt, hk.row.lt, hk.at2, fun k e => hk.own.lt k e, ne hr hk.row (by decide), own_ne hk.own hr (by decide), own_ne hk.own hk.row (by decide)⟩
  · exact ⟨hr.lt, hk.row.lt, hk.at2, fun k e => hk.own.lt k e, ne hr hk.row (by decide), own_ne hk.own hr (by decide), own_ne hk.own hk.row (by decide)⟩
end Go.Proofs.YtmbaenodibfedaaDoor.S9
