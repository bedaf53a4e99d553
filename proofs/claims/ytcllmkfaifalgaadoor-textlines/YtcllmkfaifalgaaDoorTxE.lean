/-
  Rows appended to inside a fence; what package text's joined keeps in its boxes; linesOf, eachTrimmed. Conditions: each as it says.
-/
import Derived.Test.YtcllmkfaifalgaaDoorTxD
import Derived.Lib.AppendStr
namespace Go.Proofs.YtcllmkfaifalgaaDoor.T
open Go Go.RowKit
set_option linter.unusedVariables false
set_option maxRecDepth 100000
attribute [local go_sem] Oper.semAt_some wide_fn wide_fnR wide_dep wide_depR

theorem inf22 : (Tryd.prog.info? 22).map (fun i => (i.zero, i.size, i.bytes)) = some (some (.slice none 0 0), 1, 24) := by kernel_rfl

/-- append(s, x...), s the call's own, x whatever is read. -/
theorem run_append_sl {P : Program} {w : World} (t ty : TypeId) (base : Nat) (e : TypeId) (z : Value) (bytes : Nat) (ht : P.underlying t = some (.slice e)) (hinfo : (P.info? e).map (fun i => (i.zero, i.size, i.bytes)) = some (some z, 1, bytes)) (hzs : z.cells.size = 1)
    (v : Value) (n : Nat) (xs : List Value) (hown : w.ownsRow base e 1 v n xs) (sv : Value) (ys : List Value) (hsl : SlV w sv ys) (h1 : ∀ u ∈ ys, u.oneCell' = true)
    (h63 : n + ys.length ≤ maxLen) (hbytes : (n + ys.length) * bytes ≤ 140737488355328) (hbase : base ≤ w.heap.size) :
    ∃ v' w', (Builtin.append_ #[t, t] ty #[v, sv]).run P w = .ok v' w' ∧ w'.ownsRow base e 1 v' (n + ys.length) (xs ++ ys) ∧ w.grownBy w' v.ownBlock := by
  obtain ⟨i0, hi, hz0, hz1, hz2⟩ := info_parts hinfo
  obtain ⟨a', c', rfl, hle, hcm, hnone, hc⟩ := hsl
  by_cases h0 : a' = none
  · subst h0
    obtain rfl := hnone rfl
    obtain rfl : ys = [] := List.eq_nil_of_length_eq_zero (by omega)
    have hrun := run_append_owned_none (P := P) (w := w) base t ty e i0 1 ht hi v n xs hown
    exact ⟨v, w, hrun, by simpa using hown, ⟨rfl, rfl, rfl, Nat.le_refl _, fun _ _ _ => rfl⟩⟩
  · obtain ⟨ad, rfl⟩ := Option.ne_none_iff_exists'.1 h0
    obtain ⟨v', w', q1, q2, q3, _⟩ := run_append_own (P := P) w base t ty e i0 z 1 bytes ht hi hz0 hz1 hz2 hzs (by decide) v n xs hown ad ys.length c' ys (by omega) (fun j u hu => by
      have hp : 0 < ys.length := by have := (List.getElem?_eq_some_iff.1 hu).1; omega
      obtain ⟨b, off, he, hcell⟩ := hc hp
      simp only [Option.some.injEq] at he
      subst he
      rw [Addr.add_lit]; exact hcell j u hu) h1 h63 hbytes hbase
    exact ⟨v', w', q1, q2, q3⟩

section
variable {F : Fence} {n : Nat} {P : Program} {w : World} {ops : Array Oper} {rest : List Oper} {o : Oper} {a : Act} {Q : Exit → Act → World → Prop}
/-- An append whose run is known, as an operation within a fence. -/
theorem wpIn_append_run (s x : Operand) (t u : TypeId) {K : Act → World → Prop} (ho : o.op = .call { callee := .builtin .append, args := #[s, x], argTypes := #[t, u] }) {v' : Value} {w' : World}
    (hrun : (Builtin.append_ #[t, u] o.type #[a.eval s, a.eval x]).run P w = .ok v' w') (hK : K (a.put o.dst v') w') : o.wpIn F n P a w K Q := by
  unfold Oper.wpIn
  refine ⟨?_, ?_⟩
  · simp [Oper.about, ho, resolve, Target.leads, Sem.run_pure]
  · rw [Oper.semAt_plain F _ _ (by rw [ho]; intro c hc'; cases hc')]
    simp [execOp, ho, resolve, invoke, builtin, hrun, Result.andThen]
    exact hK
theorem wpListIn_append_sl (hgd : o.guard = none) (s x : Operand) (t : TypeId) (ho : o.op = .call { callee := .builtin .append, args := #[s, x], argTypes := #[t, t] })
    (base : Nat) (e : TypeId) (z : Value) (bytes : Nat) (ht : P.underlying t = some (.slice e)) (hinfo : (P.info? e).map (fun i => (i.zero, i.size, i.bytes)) = some (some z, 1, bytes)) (hzs : z.cells.size = 1)
    (v : Value) (k : Nat) (xs : List Value) (hs : a.eval s = v) (hown : w.ownsRow base e 1 v k xs) (sv : Value) (ys : List Value) (hx : a.eval x = sv) (hsl : SlV w sv ys) (h1 : ∀ u ∈ ys, u.oneCell' = true)
    (h63 : k + ys.length ≤ maxLen) (hbytes : (k + ys.length) * bytes ≤ 140737488355328) (hbase : base ≤ w.heap.size)
    (h : ∀ v' w', w'.ownsRow base e 1 v' (k + ys.length) (xs ++ ys) → w.grownBy w' v.ownBlock → wpListIn F n P ops Q rest (a.put o.dst v') w') : wpListIn F n P ops Q (o :: rest) a w := by
  obtain ⟨v', w', q1, q2, q3⟩ := run_append_sl t o.type base e z bytes ht hinfo hzs v k xs hown sv ys hsl h1 h63 hbytes hbase
  exact wpListIn_plain hgd fun K hK => wpIn_append_run s x t t ho (by rw [hs, hx]; exact q1) (hK _ _ (h v' w' q2 q3))
/-- append(b, s...), s a string. -/
theorem wpListIn_append_str (hgd : o.guard = none) (s x : Operand) (t u : TypeId) (ho : o.op = .call { callee := .builtin .append, args := #[s, x], argTypes := #[t, u] })
    (base : Nat) (e : TypeId) (ht : P.underlying t = some (.slice e)) (hu : P.underlying u = some .string) (hinfo : (P.info? e).map (fun i => (i.zero, i.size, i.bytes)) = some (some (.int .u8 0), 1, 1))
    (v : Value) (k : Nat) (xs : List Value) (hs : a.eval s = v) (hown : w.ownsRow base e 1 v k xs) (st : ByteArray) (ys : List Value) (hx : a.eval x = .string st) (hst : Lib.strCells st = ys)
    (h63 : k + ys.length ≤ 140737488355328) (hbase : base ≤ w.heap.size)
    (h : ∀ v' w', w'.ownsRow base e 1 v' (k + ys.length) (xs ++ ys) → w.grownBy w' v.ownBlock → wpListIn F n P ops Q rest (a.put o.dst v') w') : wpListIn F n P ops Q (o :: rest) a w := by
  obtain ⟨i0, hi, hz0, hz1, hz2⟩ := info_parts hinfo
  subst hst
  have hsz := Lib.strCells_length st
  rw [hsz] at h63 h
  obtain ⟨v', w', q1, q2, q3, _⟩ := Lib.run_append_own_string (P := P) w base t u o.type e i0 ht hu hi hz0 hz1 hz2 v k xs hown st (by unfold maxLen; omega) h63 hbase
  exact wpListIn_plain hgd fun K hK => wpIn_append_run s x t u ho (by rw [hs, hx]; exact q1) (hK _ _ (h v' w' q2 q3))
end

/-- What joined keeps: the end, what has been joined, whether nothing has come; E: where its boxes begin. -/
structure JW (W0 : World) (E : Nat) (s : ByteArray) (f : Bool) (bs : List Int) (W : World) : Prop where
  be : Boxed W E 9 (.string s)
  bo : ∃ v, Boxed W (E + 1) 22 v ∧ W.ownsRow E 5 1 v bs.length (U bs)
  bf : Boxed W (E + 2) 4 (.bool f)
  bel : Below E W0 W
  lt : E = W0.heap.size

theorem keepsOwnRow {W W' : World} {base size k : Nat} {e ty : TypeId} {v : Value} {xs : List Value} (h : W.ownsRow base e size v k xs) (hg : W.grownBy W' v.ownBlock) (hne : (e == ty) = false) : Keeps ty W W' :=
  Keeps.grown hg fun j o ej hj => by
    rcases h.2 with ⟨rfl, _⟩ | ⟨g, cap, cur, rfl, _, hgb, _⟩
    · simp [Value.ownBlock] at ej
    · obtain rfl : g = j := by simpa [Value.ownBlock] using ej
      rw [hgb] at hj; cases hj; exact hne
theorem keepsBox {W : World} {B : Nat} {t ty : TypeId} {v : Value} (h : Boxed W B t v) (u : Value) (hne : (t == ty) = false) : Keeps ty W (W.setCell ⟨B, 0, none⟩ u) :=
  Keeps.grown (grownBy_setCell' W B u) fun j o ej hj => by cases ej; rw [show W.heap[B]? = _ from h] at hj; cases hj; exact hne

theorem JW.append {W0 W w1 : World} {E : Nat} {s : ByteArray} {f : Bool} {bs cs : List Int} {v v' : Value} (h : JW W0 E s f bs W) (hv : Boxed W (E + 1) 22 v) (ho : W.ownsRow E 5 1 v bs.length (U bs))
    (h1 : w1.ownsRow E 5 1 v' (bs.length + (U cs).length) (U bs ++ U cs)) (hg : W.grownBy w1 v.ownBlock) :
    Boxed w1 (E + 1) 22 v ∧ JW W0 E s f (bs ++ cs) (w1.setCell ⟨E + 1, 0, none⟩ v') ∧ Keeps 28 W (w1.setCell ⟨E + 1, 0, none⟩ v') ∧ Below E W (w1.setCell ⟨E + 1, 0, none⟩ v') ∧ (w1.setCell ⟨E + 1, 0, none⟩ v').ownsRow E 5 1 v' (bs ++ cs).length (U (bs ++ cs)) := by
  have b1 := hv.kept hg (hv.not_row (by decide) ho)
  have hE : E ≤ W.heap.size := by rw [h.lt]; exact h.bel.size
  have hlo : ∀ k, v.ownBlock = some k → E ≤ k := fun k hk => (ho.lt k hk).1
  have hB : Below E W (w1.setCell ⟨E + 1, 0, none⟩ v') := ((Below.refl E W).grown hg hE hlo).setCell (p := ⟨E + 1, 0, none⟩) (by simp) v'
  have ho3 : (w1.setCell ⟨E + 1, 0, none⟩ v').ownsRow E 5 1 v' (bs ++ cs).length (U (bs ++ cs)) := by
    have := h1.kept (grownBy_setCell' w1 (E + 1) v') (.inr (b1.not_row (by decide) h1).symm)
    rw [List.length_append, U_append]; rw [U_length] at this; exact this
  refine ⟨b1, ⟨?_, ⟨v', b1.set v', ho3⟩, ?_, h.bel.trans hB, h.lt⟩, (keepsOwnRow ho hg (by decide)).trans (keepsBox b1 _ (by decide)), hB, ho3⟩
  · exact (h.be.kept hg (h.be.not_row (by decide) ho)).other (by omega) v'
  · exact (h.bf.kept hg (h.bf.not_row (by decide) ho)).other (by omega) v'

theorem JW.begun {W0 W : World} {E : Nat} {s : ByteArray} {f : Bool} {bs : List Int} (h : JW W0 E s f bs W) : JW W0 E s false bs (W.setCell ⟨E + 2, 0, none⟩ (.bool false)) ∧ Keeps 28 W (W.setCell ⟨E + 2, 0, none⟩ (.bool false)) ∧ Below E W (W.setCell ⟨E + 2, 0, none⟩ (.bool false)) := by
  obtain ⟨v, hv, ho⟩ := h.bo
  have hB : Below E W (W.setCell ⟨E + 2, 0, none⟩ (.bool false)) := (Below.refl E W).setCell (p := ⟨E + 2, 0, none⟩) (by simp) _
  refine ⟨⟨h.be.other (by omega) _, ⟨v, hv.other (by omega) _, ho.kept (grownBy_setCell' W (E + 2) _) (.inr (h.bf.not_row (by decide) ho).symm)⟩, h.bf.set _, h.bel.trans hB, h.lt⟩, keepsBox h.bf _ (by decide), hB⟩

theorem JW.own {W0 : World} {E : Nat} {s : ByteArray} {α : Type} (f : α → Bool) (bs : α → List Int) (B : Nat) (hB : E ≤ B) : OwnFrom B (fun (x : α) W => JW W0 E s (f x) (bs x) W) := by
  intro x W W' row h hg hr
  have hc : ∀ b t u, Boxed W b t u → some b ≠ row := fun b t u hb e => by
    obtain ⟨_, o, ho, hno⟩ := hr b e.symm
    rw [show W.heap[b]? = _ from hb] at ho; cases ho; cases hno
  obtain ⟨v, hv, ho⟩ := h.bo
  refine ⟨h.be.kept hg (hc _ _ _ h.be), ⟨v, hv.kept hg (hc _ _ _ hv), ho.kept hg ?_⟩, h.bf.kept hg (hc _ _ _ h.bf), ?_, h.lt⟩
  · rcases ho.2 with ⟨rfl, _⟩ | ⟨g, cap, cur, rfl, _, hgb, _⟩
    · exact .inl rfl
    · refine .inr fun e => ?_
      obtain ⟨_, o, ho', hno⟩ := hr g (by simpa [Value.ownBlock] using e.symm)
      rw [hgb] at ho'; cases ho'; cases hno
  · exact h.bel.grown hg (by rw [h.lt]; exact h.bel.size) (fun k hk => Nat.le_trans hB (hr k hk).1)
end Go.Proofs.YtcllmkfaifalgaaDoor.T
