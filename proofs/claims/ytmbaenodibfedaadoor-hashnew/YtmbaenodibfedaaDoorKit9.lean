/-
  More of my own small kit, over whatever program: copy into the whole of an array's block, in a region that draws its order. Conditions: elements of one cell; what is copied is at least as long.
-/
import Derived.Test.YtmbaenodibfedaaDoorKit8
namespace Go.Proofs.YtmbaenodibfedaaDoor
open Go.RowKit
set_option linter.unusedVariables false

theorem wp_copy_R {P : Program} {w : World} {o : Oper} {a : Act} {K : Act → World → Prop} {Q : Exit → Act → World → Prop} (d s : Operand) (t : TypeId)
    (ho : o.op = .call { callee := .builtin .copy, args := #[d, s], argTypes := #[t, t] }) (e : TypeId) (hu : P.underlying t = some (.slice e)) (hsz : (P.info? e).map (·.size) = some 1)
    (g n cap k m sc : Nat) (us ys : List Value) {eb ek : TypeId} (hd : a.eval d = .slice (some ⟨g, 0, none⟩) n cap) (hs : a.eval s = .slice (some ⟨k, 0, none⟩) m sc)
    (hg : Row w g eb us) (hk : Row w k ek ys) (hn : us.length = n) (hm : ys.length = m) (hnm : n ≤ m) (h1 : ys.all (·.oneCell') = true)
    (h : ∀ w', Row w' g eb (ys.take n) → w.grownBy w' (some g) → w'.heap.size = w.heap.size → K (a.put o.dst (goInt (n : Int))) w') : o.wp P a w K Q := by
  subst hn hm
  have hl : (ys.take us.length).length = us.length := by rw [List.length_take]; omega
  have hrun := run_copy_row (P := P) w t t o.type e g 0 us.length cap ⟨k, 0, none⟩ ys.length sc us.toArray eb (ys.take us.length) hu hsz hg (by rw [hl]; exact (Nat.min_eq_right hnm).symm) (fun j v hv => by
      rw [Addr.add_lit, Nat.zero_add, hk.cell]
      rw [List.getElem?_take] at hv
      split at hv
      · exact hv
      · cases hv) (by simp; omega) (fun v hv => List.all_eq_true.1 h1 v (List.mem_of_mem_take hv))
  unfold Oper.wp
  simp [execOp, ho, resolve, invoke, builtin, hd, hs, hrun, Result.andThen]
  have e2 : List.take us.length ys ++ List.drop us.length us = ys.take us.length := by rw [List.drop_of_length_le (Nat.le_refl _), List.append_nil]
  have hmn : min us.length ys.length = us.length := Nat.min_eq_left hnm
  have := h _ (hg.setRow (ys.take us.length)) ⟨rfl, rfl, rfl, by simp, fun k _ hk => setRow_other w g k _ (fun e => hk (by rw [e]))⟩ (by simp)
  rw [hmn, e2]
  exact this
end Go.Proofs.YtmbaenodibfedaaDoor
