/-
  A key in a box, as the laws of layer 10 hold it. No conditions.
-/
import Derived.Test.YtbefchlgonlfiaaRsJ
namespace Go.Proofs.Ytbefchlgonlfiaa.R10
open Go.RowKit
set_option linter.unusedVariables false
set_option maxRecDepth 10000

theorem exec_load_cell {P : Program} {w : World} {o : Oper} {ev : Operand → Value} (ty : TypeId) (x : Operand) (ho : o.op = .load ty x) {g off : Nat} (hx : ev x = .pointer (some ⟨g, off, none⟩)) {v : Value} (hc : w.cell? ⟨g, off, none⟩ = some v) {d : TypeDesc}
    (hu : P.underlying ty = some d) (hd : (match d with | .struct _ | .array _ _ => true | _ => false) = false) : (execOp ev o).run P w = .ok (.value v) w := by
  have hagg : (isAgg ty).run P w = .ok false w := by
    unfold isAgg
    rw [Sem.run_bind, run_underlying hu w]
    cases d <;> simp_all
  unfold execOp
  simp only [ho, hx, Instr.loadAt, Instr.sureAddr, Sem.run_bind, Sem.run_pure, Result.andThen_ok, loadVar, hagg]
  simp [go_sem, hc]
theorem wp_value {P : Program} {w : World} {o : Oper} {a : Act} {K : Act → World → Prop} {Q : Exit → Act → World → Prop} (v : Value) (h : (execOp a.eval o).run P w = .ok (.value v) w) (hk : K (a.put o.dst v) w) : o.wp P a w K Q := by
  unfold Oper.wp
  rw [h]
  exact hk
theorem exec_conv {P : Program} {w : World} {o : Oper} {ev : Operand → Value} {src dst : TypeId} {x : Operand} {v u : Value} (ho : o.op = .convert src dst x) (hx : ev x = v) (h : (convert src dst v).run P w = .ok u w) : (execOp ev o).run P w = .ok (.value u) w := by
  unfold execOp
  simp only [ho, hx, Sem.run_bind, h, Result.andThen_ok, Sem.run_pure]

/-- A key in the call's own block. -/
structure KBox (g : Nat) (sn se sd : Value) (alg : Int) (w : World) : Prop where
  n : w.cell? ⟨g, 0, none⟩ = some sn
  e : w.cell? ⟨g, 1, none⟩ = some se
  d : w.cell? ⟨g, 2, none⟩ = some sd
  a : w.cell? ⟨g, 3, none⟩ = some (.int .i64 alg)
theorem KBox.below {g : Nat} {sn se sd : Value} {alg : Int} {w w' : World} (h : KBox g sn se sd alg w) (hb : Below w.heap.size w w') : KBox g sn se sd alg w' := by
  have hl : g < w.heap.size := World.block_lt_of_cell? w ⟨g, 0, none⟩ h.n
  exact ⟨(hb.cell (p := ⟨g, 0, none⟩) hl).trans h.n, (hb.cell (p := ⟨g, 1, none⟩) hl).trans h.e, (hb.cell (p := ⟨g, 2, none⟩) hl).trans h.d, (hb.cell (p := ⟨g, 3, none⟩) hl).trans h.a⟩
theorem KBox.new (w : World) (sn se sd : Value) (alg : Int) (t : TypeId) : KBox w.heap.size sn se sd alg (w.alloc (.cells #[sn, se, sd, .int .i64 alg] t)) := ⟨by simp, by simp, by simp, by simp⟩
theorem below_drew (w : World) : Below w.heap.size w w.drew := ⟨rfl, rfl, rfl, Nat.le_refl _, fun _ _ => rfl⟩
theorem drew_below {w w' : World} (h : Below w.drew.heap.size w.drew w') : Below w.heap.size w w' := ⟨h.os, h.tape, h.output, h.size, h.block⟩

/-- What the laws carry: the key, its numbers, two rows of bytes. -/
structure Hold (g : Nat) (sn se sd : Value) (alg : Int) (N E D K : Nat) (v1 v2 : Value) (x1 x2 : List Nat) (w : World) : Prop where
  kb : KBox g sn se sd alg w
  n : Num w sn N K
  e : Num w se E 2
  d : Num w sd D K
  b1 : SlV w v1 (C .u8 x1)
  b2 : SlV w v2 (C .u8 x2)
theorem Hold.below {g : Nat} {sn se sd : Value} {alg : Int} {N E D K : Nat} {v1 v2 : Value} {x1 x2 : List Nat} {w w' : World} (h : Hold g sn se sd alg N E D K v1 v2 x1 x2 w) (hb : Below w.heap.size w w') : Hold g sn se sd alg N E D K v1 v2 x1 x2 w' :=
  ⟨h.kb.below hb, h.n.below hb, h.e.below hb, h.d.below hb, h.b1.below hb, h.b2.below hb⟩
theorem Hold.drew {g : Nat} {sn se sd : Value} {alg : Int} {N E D K : Nat} {v1 v2 : Value} {x1 x2 : List Nat} {w : World} (h : Hold g sn se sd alg N E D K v1 v2 x1 x2 w) : Hold g sn se sd alg N E D K v1 v2 x1 x2 w.drew := h.below (below_drew w)
theorem num_of_row {w : World} {a : Option Addr} {l c : Nat} {z : List Int} (h : IsRow .u32 w a l c z) : ∃ N, Num w (.slice a l c) N l ∧ (l : Int) ≤ 9223372036854775807 := by
  obtain ⟨xs, hs, hl, hn⟩ := open32 h
  have hm : l ≤ maxLen := by have := hs.len; rwa [C_length, hn] at this
  exact ⟨_, ⟨xs, hs, hl, rfl, by omega⟩, by unfold maxLen at hm; omega⟩
theorem bytes_of_row {w : World} {a : Option Addr} {l c : Nat} {z : List Int} (h : IsRow .u8 w a l c z) : ∃ xs, SlV w (.slice a l c) (C .u8 xs) ∧ xs.length = l ∧ Lo 256 xs ∧ (l : Int) ≤ 9223372036854775807 := by
  obtain ⟨xs, hs, hl, hn⟩ := h.bytes
  have hm : l ≤ maxLen := by have := hs.len; rwa [C_length, hl] at this
  exact ⟨xs, hs, hl, hn, by unfold maxLen at hm; omega⟩
end Go.Proofs.Ytbefchlgonlfiaa.R10
