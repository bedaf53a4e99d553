/-
  More of my own small kit, over whatever program: one cell of a struct's block loaded and stored in a region that draws its order. Conditions: as each says.
-/
import Derived.Test.YtmbaenodibfedaaDoorKit11
namespace Go.Proofs.YtmbaenodibfedaaDoor
open Go.RowKit
set_option linter.unusedVariables false

theorem exec_load_cell {P : Program} {w : World} {o : Oper} {ev : Operand → Value} (ty : TypeId) (x : Operand) (ho : o.op = .load ty x) {g off : Nat} (hx : ev x = .pointer (some ⟨g, off, none⟩)) {v : Value} (hc : w.cell? ⟨g, off, none⟩ = some v) {d : TypeDesc}
    (hu : P.underlying ty = some d) (hd : (match d with | .struct _ | .array _ _ => true | _ => false) = false) : (execOp ev o).run P w = .ok (.value v) w := by
  have hagg : (isAgg ty).run P w = .ok false w := by
    unfold isAgg
    rw [Sem.run_bind, run_underlying hu w]
    cases d <;> simp_all
  unfold execOp
  simp only [ho, hx, Instr.loadAt, Instr.sureAddr, Sem.run_bind, Sem.run_pure, Result.andThen_ok, loadVar, hagg]
  simp [go_sem, hc]
theorem wp_store_cell {P : Program} {w : World} {o : Oper} {a : Act} {K : Act → World → Prop} {Q : Exit → Act → World → Prop} (ty : TypeId) (x y : Operand) (ho : o.op = .store ty x y)
    (g off : Nat) (v : Value) (hx : a.eval x = .pointer (some ⟨g, off, none⟩)) (hy : a.eval y = v) (hv : v.cells = #[v]) (h1 : v.oneCell' = true) {t : TypeId} {us : List Value} (hg : Row w g t us) (hoff : off < us.length) (hi : (P.info? ty).map (·.size) = some 1)
    (h : ∀ w', Row w' g t (us.set off v) → w.grownBy w' (some g) → w'.heap.size = w.heap.size → K (a.put o.dst undef) w') : o.wp P a w K Q := by
  have hs := run_storeCells_at P g off t [v] 0 us.toArray w hg (by simp; omega) (fun u hu => by simp at hu; subst hu; exact h1)
  simp only [Nat.add_zero, List.length_singleton] at hs
  have hset : us.take off ++ [v] ++ us.drop (off + 1) = us.set off v := by
    rw [List.set_eq_take_append_cons_drop, if_pos hoff]; simp
  have hr : (storeVar ty ⟨g, off, none⟩ v).run P w = .ok () (w.setRow g (us.set off v).toArray) := by
    cases hq : P.info? ty with
    | none => simp [hq] at hi
    | some i =>
      have hz : i.size = 1 := by simpa [hq] using hi
      rw [hset] at hs
      simp [storeVar, sizeOf, typeInfo, hq, hv, hz, hs]
  unfold Oper.wp execOp
  simp only [ho, hx, hy, Instr.storeAt, Instr.sureAddr, Sem.run_bind, Sem.run_pure, Result.andThen_ok, hr]
  exact h _ (hg.setRow _) ⟨rfl, rfl, rfl, by simp, fun k _ hk => setRow_other w g k _ (fun e => hk (by rw [e]))⟩ (by simp)
theorem _root_.Go.World.ownsRow.drew' {w : World} {base n : Nat} {e : TypeId} {v : Value} {xs : List Value} (h : w.ownsRow base e 1 v n xs) : w.drew.ownsRow base e 1 v n xs := h
theorem own_cells {w : World} {base n : Nat} {e : TypeId} {v : Value} {xs : List Value} (h : w.ownsRow base e 1 v n xs) : v.cells = #[v] := by
  rcases h.2 with ⟨rfl, _⟩ | ⟨g, cap, cur, rfl, _⟩ <;> rfl
theorem own_oneCell {w : World} {base n : Nat} {e : TypeId} {v : Value} {xs : List Value} (h : w.ownsRow base e 1 v n xs) : v.oneCell' = true := by
  rcases h.2 with ⟨rfl, _⟩ | ⟨g, cap, cur, rfl, _⟩ <;> rfl
theorem wp_value {P : Program} {w : World} {o : Oper} {a : Act} {K : Act → World → Prop} {Q : Exit → Act → World → Prop} (v : Value) (h : (execOp a.eval o).run P w = .ok (.value v) w) (hk : K (a.put o.dst v) w) : o.wp P a w K Q := by
  unfold Oper.wp
  rw [h]
  exact hk
theorem Kp.drew {q : Nat} {r : Option Nat} {a b : World} (h : Kp q r a b) : Kp q r a b.drew := ⟨h.os, h.tape, h.output, h.size, h.block⟩
theorem slice_block {a : Option Addr} {n m c d : Nat} : (Value.slice a n c).ownBlock = (Value.slice a m d).ownBlock := by cases a <;> rfl
theorem cut_block {a : Option Addr} {n l c d m : Nat} : (Value.slice (if c = l then a else a.map (fun x => x.add l)) m d).ownBlock = (Value.slice a n c).ownBlock := by
  split
  · exact slice_block
  · cases a with
    | none => rfl
    | some x => simp [Value.ownBlock, Addr.add]; split <;> rfl
end Go.Proofs.YtmbaenodibfedaaDoor
