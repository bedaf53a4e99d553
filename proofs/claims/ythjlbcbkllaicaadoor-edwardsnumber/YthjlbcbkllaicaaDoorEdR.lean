/-
  What the package's variables hold; scaled points as values and blocks; points compared; over this seat's translation. Conditions: each as it says.
-/
import Derived.Test.YthjlbcbkllaicaaDoorE13a
import Derived.Test.YthjlbcbkllaicaaDoorM13
namespace Go.Proofs.YthjlbcbkllaicaaDoor.F
open Go.RowKit
set_option linter.unusedVariables false
set_option maxRecDepth 10000

open E (z z_val z_same z_add z_mul z_sub z_inv z_mod z_of dd Pt padd pneg pmul iv ax ay)
/-- What a variable's block holds. -/
def GlobC (w : World) (g : Nat) (us : List Value) : Prop := ∃ t f, w.heap[g]? = some (.cells us.toArray t f)
theorem GlobC.lt {w : World} {g : Nat} {us : List Value} (h : GlobC w g us) : g < w.heap.size := by
  obtain ⟨t, f, h⟩ := h
  exact (Array.getElem?_eq_some_iff.1 h).1
theorem GlobC.below {w w' : World} {g : Nat} {us : List Value} (h : GlobC w g us) (hb : Below w.heap.size w w') : GlobC w' g us := by
  have hl := h.lt
  obtain ⟨t, f, h⟩ := h
  exact ⟨t, f, by rw [hb.block g hl]; exact h⟩
theorem Glob.c {w : World} {g n : Nat} (h : Glob w g n) : GlobC w g (ec n) := h
/-- A variable loaded, in a region that draws its order. -/
theorem exec_load_G {P : Program} {w : World} {o : Oper} {ev : Operand → Value} (ty : TypeId) (x : Operand) (ho : o.op = .load ty x) {g : Nat} (hx : ev x = .pointer (some ⟨g, 0, none⟩)) {us : List Value} (hg : GlobC w g us) {d : TypeDesc}
    (hu : P.underlying ty = some d) (hd : (match d with | .struct _ | .array _ _ => true | _ => false) = true) (hi : (P.info? ty).map (·.size) = some us.length) : (execOp ev o).run P w = .ok (.value (.agg us.toArray)) w := by
  obtain ⟨t, f, hg⟩ := hg
  have h := run_loadVar_row (P := P) w g t ty us.toArray f _ hg hu hd (by simpa using hi)
  unfold execOp
  simp only [ho, hx, Instr.loadAt, Instr.sureAddr, Sem.run_bind, Sem.run_pure, Result.andThen_ok, h]
theorem wpList_load_G {P : Program} {ops : Array Oper} {rest : List Oper} {o : Oper} {a : Act} {w : World} {Q : Exit → Act → World → Prop} (hgd : o.guard = none) (ty : TypeId) (x : Operand) (ho : o.op = .load ty x)
    {g : Nat} (hx : a.eval x = .pointer (some ⟨g, 0, none⟩)) {us : List Value} (hg : GlobC w g us) {d : TypeDesc} (hu : P.underlying ty = some d) (hd : (match d with | .struct _ | .array _ _ => true | _ => false) = true) (hi : (P.info? ty).map (·.size) = some us.length)
    (h : wpList P ops Q rest (a.put o.dst (.agg us.toArray)) w) : wpList P ops Q (o :: rest) a w :=
  wpList_plain hgd fun _ hK => by
    unfold Oper.wp
    rw [exec_load_G ty x ho hx hg hu hd hi]
    exact hK _ _ h

/-- The curve's number. -/
theorem Dn_z : z Dn = dd := z_D
abbrev Bx : Nat := 15112221349535400772501151409588531511454012693041857206046113283949847762202
abbrev By : Nat := 46316835694926478169428394003475163141307993866256225615783033603165251855960
/-- What the packages' variables hold. -/
structure TE (w : World) : Prop where
  p : Tab w
  d : Glob w 0 Dn
structure TI (w : World) : Prop where
  e : TE w
  v : Glob w 5 (P - 2)
structure TR (w : World) : Prop where
  i : TI w
  r : Tabs w
theorem TE.below {w w' : World} (h : TE w) (hb : Below w.heap.size w w') : TE w' := ⟨h.p.below hb, h.d.below hb⟩
theorem TI.below {w w' : World} (h : TI w) (hb : Below w.heap.size w w') : TI w' := ⟨h.e.below hb, h.v.below hb⟩
theorem TR.below {w w' : World} (h : TR w) (hb : Below w.heap.size w w') : TR w' := ⟨h.i.below hb, h.r.below hb⟩
abbrev TB (w : World) : Prop := GlobC w 1 (pc Bx By)

/-- A scaled point's cells. -/
def sc (A B M N : Nat) : List Value := ec A ++ (ec B ++ (ec M ++ ec N))
theorem sc_length (A B M N : Nat) : (sc A B M N).length = 16 := rfl
theorem sc_all (A B M N : Nat) : (sc A B M N).all (·.oneCell') = true := by unfold sc; rw [List.all_append, List.all_append, List.all_append, ec_all, ec_all, ec_all, ec_all]; rfl
theorem zSw (w : World) : (zeroValue 52).run Tryd.prog w = .ok (.agg (sc 0 0 0 0).toArray) w := by kernel_rfl
theorem iS (A B M N : Nat) : (Tryd.prog.info? 52).map (·.size) = some (sc A B M N).length := by rw [sc_length]; kernel_rfl
theorem bSc (A B M N : Nat) : Tryd.prog.built 52 [(0, .agg (ec A).toArray), (1, .agg (ec B).toArray), (2, .agg (ec M).toArray), (3, .agg (ec N).toArray)] = some (sc A B M N).toArray := by kernel_rfl
theorem sc_0 {w : World} {g : Nat} {t : TypeId} {A B M N : Nat} (h : Row w g t (sc A B M N)) : Row w g t ([] ++ (ec A ++ (ec B ++ (ec M ++ ec N)))) := h
theorem sc_1 {w : World} {g : Nat} {t : TypeId} {A B M N : Nat} (h : Row w g t (sc A B M N)) : Row w g t (ec A ++ (ec B ++ (ec M ++ ec N))) := h
theorem sc_2 {w : World} {g : Nat} {t : TypeId} {A B M N : Nat} (h : Row w g t (sc A B M N)) : Row w g t ((ec A ++ ec B) ++ (ec M ++ ec N)) := by rw [List.append_assoc]; exact h
theorem sc_3 {w : World} {g : Nat} {t : TypeId} {A B M N : Nat} (h : Row w g t (sc A B M N)) : Row w g t ((ec A ++ (ec B ++ ec M)) ++ (ec N ++ [])) := by rw [List.append_nil, List.append_assoc, List.append_assoc]; exact h

/-- Points compared. -/
theorem part_x (A B : Nat) (w : World) : (part 24 (pc A B).toArray 0).run Tryd.prog w = .ok (.agg (ec A).toArray) w := by kernel_rfl
theorem part_y (A B : Nat) (w : World) : (part 24 (pc A B).toArray 4).run Tryd.prog w = .ok (.agg (ec B).toArray) w := by kernel_rfl
theorem eq4' (w : World) (X Y : Nat) (hX : X < 115792089237316195423570985008687907853269984665640564039457584007913129639936) (hY : Y < 115792089237316195423570985008687907853269984665640564039457584007913129639936) : (Op.equalIn 9999 24 (.agg (ec X).toArray) (.agg (ec Y).toArray)).run Tryd.prog w = .ok (decide (X = Y)) w := by
  have hi : ∃ i, Tryd.prog.info? 22 = some i := by
    have := i1w
    cases hq : Tryd.prog.info? 22 with
    | none => rw [hq] at this; cases this
    | some i => exact ⟨i, rfl⟩
  rw [run_equal_C w 9997 Tryd.underlying24 (by kernel_rfl) Tryd.underlying22 hi (by kernel_rfl) _ _ (wds_length X) (wds_length Y)]
  congr 1
  rw [decide_eq_decide]
  exact ⟨wds_inj hX hY, fun h => by rw [h]⟩
theorem eqP (w : World) (A B M N : Nat) (lA : A < 115792089237316195423570985008687907853269984665640564039457584007913129639936) (lB : B < 115792089237316195423570985008687907853269984665640564039457584007913129639936) (lM : M < 115792089237316195423570985008687907853269984665640564039457584007913129639936) (lN : N < 115792089237316195423570985008687907853269984665640564039457584007913129639936) : (Op.equalIn 10000 26 (.agg (pc A B).toArray) (.agg (pc M N).toArray)).run Tryd.prog w = .ok (decide (A = M) && decide (B = N)) w := by
  rw [run_equalIn_struct w 9999 26 _ _ (by kernel_rfl) (by kernel_rfl)]
  have e1 := eq4' w A M lA lM
  have e2 := eq4' w B N lB lN
  generalize decide (A = M) = a at *
  generalize decide (B = N) = b at *
  simp [Program.fieldsOf, Tryd.underlying26, Op.eqFields, Sem.run_bind, part_x, part_y, e1, e2]
  cases a <;> cases b <;> rfl
/-- Are they one point? -/
def eqB (p q : Pt) : Bool := decide (p.x.val = q.x.val) && decide (p.y.val = q.y.val)
theorem eqB_iff (p q : Pt) : eqB p q = true ↔ p = q := by
  unfold eqB
  rw [Bool.and_eq_true, decide_eq_true_iff, decide_eq_true_iff]
  exact ⟨fun h => Pt.same (Fin.ext h.1) (Fin.ext h.2), fun h => by rw [h]; exact ⟨rfl, rfl⟩⟩
theorem eqB_self (p : Pt) : eqB p p = true := (eqB_iff p p).2 rfl
theorem eqPt (w : World) (p q : Pt) : (Op.equalIn 10000 26 (.agg (pv p).toArray) (.agg (pv q).toArray)).run Tryd.prog w = .ok (eqB p q) w := eqP w _ _ _ _ (ptx_lt p) (pty_lt p) (ptx_lt q) (pty_lt q)
end Go.Proofs.YthjlbcbkllaicaaDoor.F
