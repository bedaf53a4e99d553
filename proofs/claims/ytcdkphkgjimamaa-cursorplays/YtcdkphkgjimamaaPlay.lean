/-
  The state of a round of the law CursorPlays: the cursor, the document's own cursor beside it, the bytes. Plain facts on memory. No conditions.
-/
import Derived.Test.YtcdkphkgjimamaaCur3
import Derived.Deep.CutBlock
import Derived.Deep.DeepCutAuto
import Derived.Deep.Slices
namespace Go.Proofs.Ytcdkphkgjimamaa
open Go.RowKit
set_option linter.unusedVariables false

/-- The cursor in block c at place kc; the document's in block mb at place km; v1 still reads as the bytes. -/
structure Play (w wr : World) (c mb : Nat) (sv bv v1 : Value) (xs : List Int) (kc km : Nat) : Prop where
  cur : CurAt wr c sv xs kc
  m0 : wr.cell? ⟨mb, 0, none⟩ = some bv
  m1 : wr.cell? ⟨mb, 1, none⟩ = some (.int .i64 (km : Int))
  f0 : wr.frozen? ⟨mb, 0, none⟩ = false
  f1 : wr.frozen? ⟨mb, 1, none⟩ = false
  own : SlV wr v1 (U xs)
  ob : ∀ b, v1.ownBlock = some b → b < c
  lt : c < mb
  low : w.heap.size ≤ c
  bel : Below w.heap.size w wr

section
variable {w wr wr' : World} {c mb : Nat} {sv bv v1 : Value} {xs : List Int} {kc km : Nat}
theorem Play.ml (h : Play w wr c mb sv bv v1 xs kc km) : mb < wr.heap.size := World.block_lt_of_cell? wr _ h.m0
theorem Play.below (h : Play w wr c mb sv bv v1 xs kc km) (hb : Below wr.heap.size wr wr') : Play w wr' c mb sv bv v1 xs kc km :=
  ⟨h.cur.below hb, (hb.cell (p := ⟨mb, 0, none⟩) h.ml).trans h.m0, (hb.cell (p := ⟨mb, 1, none⟩) h.ml).trans h.m1, (hb.frozen (p := ⟨mb, 0, none⟩) h.ml).trans h.f0, (hb.frozen (p := ⟨mb, 1, none⟩) h.ml).trans h.f1,
    h.own.below hb, h.ob, h.lt, h.low, h.bel.trans (hb.mono h.bel.size)⟩
/-- Behind a write to a row that is newer than all of it. -/
theorem Play.grown {row : Option Nat} (h : Play w wr c mb sv bv v1 xs kc km) (hg : wr.grownBy wr' row) (hr : ∀ b, row = some b → mb < b) : Play w wr' c mb sv bv v1 xs kc km := by
  have hm : wr'.heap[mb]? = wr.heap[mb]? := hg.block mb h.ml (fun e => by have := hr mb e.symm; omega)
  have hlt := h.lt
  have hlow := h.low
  exact ⟨h.cur.grown hg (fun b e => by have := hr b e; omega), (World.cell?_of_block (a := ⟨mb, 0, none⟩) hm).trans h.m0, (World.cell?_of_block (a := ⟨mb, 1, none⟩) hm).trans h.m1, (World.frozen?_of_block (a := ⟨mb, 0, none⟩) hm).trans h.f0, (World.frozen?_of_block (a := ⟨mb, 1, none⟩) hm).trans h.f1,
    h.own.grown hg (fun b e he => by have := hr b he.symm; have := h.ob b e; omega), h.ob, h.lt, h.low, h.bel.grown hg h.bel.size (fun b e => by have := hr b e; omega)⟩
/-- Behind a method of the cursor. -/
theorem Play.cursor {k' : Nat} (h : Play w wr c mb sv bv v1 xs kc km) (hg : wr.grownBy wr' (some c)) (hc : CurAt wr' c sv xs k') : Play w wr' c mb sv bv v1 xs k' km := by
  have hlt := h.lt
  have hm : wr'.heap[mb]? = wr.heap[mb]? := hg.block mb h.ml (fun e => by simp at e; omega)
  exact ⟨hc, (World.cell?_of_block (a := ⟨mb, 0, none⟩) hm).trans h.m0, (World.cell?_of_block (a := ⟨mb, 1, none⟩) hm).trans h.m1, (World.frozen?_of_block (a := ⟨mb, 0, none⟩) hm).trans h.f0, (World.frozen?_of_block (a := ⟨mb, 1, none⟩) hm).trans h.f1,
    h.own.grown hg (fun b e he => by have := h.ob b e; simp at he; omega), h.ob, h.lt, h.low, h.bel.grown hg h.bel.size (fun b e => by simp at e; have := h.low; omega)⟩
/-- Behind a store of the document's cursor. -/
theorem Play.stored (h : Play w wr c mb sv bv v1 xs kc km) (k' : Nat) : Play w ((wr.setCell ⟨mb, 0, none⟩ bv).setCell ⟨mb, 1, none⟩ (.int .i64 (k' : Int))) c mb sv bv v1 xs kc k' := by
  have hlt := h.lt
  have hlow := h.low
  have hbl : ∀ b, b < mb → ((wr.setCell ⟨mb, 0, none⟩ bv).setCell ⟨mb, 1, none⟩ (.int .i64 (k' : Int))).heap[b]? = wr.heap[b]? := fun b hb => by
    rw [Below.heap_setCell _ _ _ _ (by simp; omega), Below.heap_setCell _ _ _ _ (by simp; omega)]
  have hbc : Below mb wr ((wr.setCell ⟨mb, 0, none⟩ bv).setCell ⟨mb, 1, none⟩ (.int .i64 (k' : Int))) := ⟨rfl, rfl, rfl, by simp [World.setCell], hbl⟩
  refine ⟨⟨(hbc.cell hlt).trans h.cur.c0, (hbc.cell hlt).trans h.cur.c1, (hbc.frozen hlt).trans h.cur.f1, h.cur.sl.keep fun b e _ => hbl b (by have := h.cur.ne b e; omega), h.cur.ne, h.cur.le, h.cur.small⟩, ?_, ?_, ?_, ?_, h.own.keep fun b e _ => hbl b (by have := h.ob b e; omega), h.ob, h.lt, h.low, (h.bel.setCell (by simp; omega) _).setCell (by simp; omega) _⟩
  · simp [go_sem, h.m0]
  · simp [go_sem, h.m1]
  · simp [go_sem, h.f0]
  · simp [go_sem, h.f1]
end
end Go.Proofs.Ytcdkphkgjimamaa
