/-
  All that the laws on a hash want besides: conversions in a region that draws its order. No conditions.
-/
import Derived.Test.YtmbaenodibfedaaDoorHshZ
import Derived.Test.YtmbaenodibfedaaDoorHshV
namespace Go.Proofs.YtmbaenodibfedaaDoor.S9
open Go.RowKit
set_option linter.unusedVariables false

theorem exec_conv {P : Program} {w : World} {o : Oper} {ev : Operand → Value} {src dst : TypeId} {x : Operand} {v r : Value} (ho : o.op = .convert src dst x) (hx : ev x = v) (h : (convert src dst v).run P w = .ok r w) : (execOp ev o).run P w = .ok (.value r) w := by
  unfold execOp
  simp only [ho, hx, Sem.run_bind, h, Result.andThen_ok, Sem.run_pure]
/-- What a law's last question reads: a hash, the bytes that are wanted. -/
def Seen (a : Int) (hp q : Nat) (v y : Value) (bs D : List Nat) (w : World) : Prop := HI w a hp q v bs ∧ SlV w y (C .u8 D) ∧ Tabs w
theorem Seen.below {a : Int} {hp q : Nat} {v y : Value} {bs D : List Nat} {w w' : World} (h : Seen a hp q v y bs D w) (hb : Below w.heap.size w w') : Seen a hp q v y bs D w' := ⟨h.1.below hb, h.2.1.below hb, h.2.2.below hb⟩
theorem HI.drew {w : World} {a : Int} {hp q : Nat} {v : Value} {bs : List Nat} (h : HI w a hp q v bs) : HI w.drew a hp q v bs := h.below ⟨rfl, rfl, rfl, Nat.le_refl _, fun _ _ => rfl⟩
theorem Seen.drew {a : Int} {hp q : Nat} {v y : Value} {bs D : List Nat} {w : World} (h : Seen a hp q v y bs D w) : Seen a hp q v y bs D w.drew := h.below ⟨rfl, rfl, rfl, Nat.le_refl _, fun _ _ => rfl⟩
end Go.Proofs.YtmbaenodibfedaaDoor.S9
