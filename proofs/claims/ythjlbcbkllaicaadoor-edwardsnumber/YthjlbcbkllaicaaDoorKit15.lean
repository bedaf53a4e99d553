/-
  A region that draws its order, by what holds behind any part of it that may be done: one step for each operation, not one for each order. Conditions: each as it says.
-/
import Derived.Test.YthjlbcbkllaicaaDoorK13
namespace Go.Proofs.YthjlbcbkllaicaaDoor
open Go.RowKit
set_option linter.unusedVariables false

theorem count_set : ∀ (l : List Bool) (i : Nat), l[i]? = some false → (l.set i true).count false + 1 = l.count false
  | [], i, h => by simp at h
  | b :: l, 0, h => by
    simp at h
    subst h
    simp
  | b :: l, i + 1, h => by
    have := count_set l i (by simpa using h)
    cases b <;> simp <;> omega
theorem count_none {l : List Bool} (h : l.count false = 0) (i : Nat) : l[i]?.getD true = true := by
  cases hq : l[i]? with
  | none => rfl
  | some b =>
    cases b
    · exact absurd (List.count_pos_iff.2 (List.mem_of_getElem? hq)) (by omega)
    · rfl
section
variable {P : Program} {md : Region.Mode} {ops : Array Oper} {Q : Exit → Act → World → Prop}
theorem wpAny_inv (I : Array Bool → Act → World → Prop)
    (hs : ∀ l b w, I l b w → ∀ i ∈ Region.ready md ops l, wpOp P ops Q i (fun b' w' => I (l.setIfInBounds i true) b' w') b w)
    (he : ∀ l b w, I l b w → Region.ready md ops l = [] → Q .normal b w) :
    ∀ (fuel : Nat) (l : Array Bool) (b : Act) (w : World), l.toList.count false ≤ fuel → I l b w → wpAny P md ops Q fuel l b w
  | 0, l, b, w, hc, h => by
    have hr : Region.ready md ops l = [] := by
      rw [List.eq_nil_iff_forall_not_mem]
      intro j hj
      have h0 := (mem_ready.1 hj).1
      have := count_none (l := l.toList) (by omega) j
      rw [Array.getD_eq_getD_getElem?, ← Array.getElem?_toList, this] at h0
      cases h0
    exact ⟨hr, he l b w h hr⟩
  | fuel + 1, l, b, w, hc, h => ⟨fun hr => he l b w h hr, fun i hi => wpOp_mono (fun b' w' h' => by
      refine wpAny_inv I hs he fuel _ b' w' ?_ h'
      have h0 := (mem_ready.1 hi).1
      have h1 : l.toList[i]? = some false := by
        rw [Array.getElem?_toList]
        rw [Array.getD_eq_getD_getElem?] at h0
        cases hq : l[i]? with
        | none => rw [hq] at h0; cases h0
        | some c => rw [hq] at h0; simpa using h0
      have := count_set l.toList i h1
      rw [Array.toList_setIfInBounds]
      omega) (hs l b w h i hi)⟩
theorem wp_region_inv {L : List Oper} {id : Nat} {a : Act} {w : World} (hm : P.follows .mixedOrders = true) (I : Act → Array Bool → Act → World → Prop)
    (h0 : I a (Array.replicate L.toArray.size false) a w.drew)
    (hs : ∀ l b w', I a l b w' → ∀ i ∈ Region.ready .any L.toArray l, wpOp P L.toArray Q i (fun b' w'' => I a (l.setIfInBounds i true) b' w'') b w')
    (he : ∀ l b w', I a l b w' → Region.ready .any L.toArray l = [] → Q .normal b w') : (Code.region id L.toArray true).wp P Q a w :=
  wp_region_any hm (wpAny_inv (I a) hs he _ _ _ _ (by
    rw [Array.toList_replicate]
    exact Nat.le_trans (List.count_le_length) (by simp)) h0)
/-- One operation's step: what is to hold behind it is hidden. -/
theorem wpOp_inv {L : List Oper} {i : Nat} {o : Oper} {I : Act → World → Prop} {b : Act} {w : World} (ho : L[i]? = some o) (hg : o.guard = none)
    (h : ∀ K : Act → World → Prop, Shut (∀ b' w', I b' w' → K b' w') → o.wp P b w K Q) : wpOp P L.toArray Q i I b w := by
  unfold wpOp
  rw [show L.toArray[i]? = some o from getL ho]
  simp only [Region.wanted, hg, if_true]
  exact .inl (h I (fun b' w' h' => h'))
theorem ready_not {L : List Oper} {l : Array Bool} {i : Nat} (hi : i ∈ Region.ready md L.toArray l) : l.getD i true = false := (mem_ready.1 hi).1
theorem ready_dep {L : List Oper} {l : Array Bool} {i k : Nat} {o : Oper} {e : Edge} (hi : i ∈ Region.ready md L.toArray l) (ho : L[i]? = some o) (hk : o.after[k]? = some e) (hb : Region.binds md e = true) : l.getD e.on false = true := by
  obtain ⟨_, o', ho', hall⟩ := mem_ready.1 hi
  rw [getL ho] at ho'
  cases ho'
  exact hall e (Array.mem_of_getElem? hk) hb
theorem ready_lt {L : List Oper} {l : Array Bool} {i : Nat} (hi : i ∈ Region.ready md L.toArray l) : i < L.length := by
  obtain ⟨_, o', ho', _⟩ := mem_ready.1 hi
  have := (Array.getElem?_eq_some_iff.1 ho').1
  simpa using this
/-- Nothing is left: what waits for nothing that is not done is done. -/
theorem ready_nil {L : List Oper} {l : Array Bool} {i : Nat} {o : Oper} (h : Region.ready md L.toArray l = []) (ho : L[i]? = some o) (hd : (o.after.toList.all fun e => !Region.binds md e || l.getD e.on false) = true) : l.getD i true = true := by
  cases hq : l.getD i true
  · have : i ∈ Region.ready md L.toArray l := mem_ready.2 ⟨hq, o, getL ho, fun e he hb => by
      have := List.all_eq_true.1 hd e (Array.mem_toList_iff.2 he)
      rw [hb] at this
      simpa using this⟩
    rw [h] at this
    cases this
  · rfl
end
/-- Slots set: each to its value, if it is done, else to what it was. -/
def putsA (a : Act) : List (Nat × Bool × Value × Value) → Act
  | [] => a
  | (s, b, v, u) :: r => putsA (a.put (some s) (bif b then v else u)) r
/-- The blocks that are there. -/
def opt (L : List (Bool × Cell3)) : List Cell3 := (L.filter (·.1)).map (·.2)
theorem opt_split {L : List (Bool × Cell3)} {k : Nat} {b : Bool} {x : Cell3} (h : L[k]? = some (b, x)) : opt L = opt (L.take k) ++ ((bif b then [x] else []) ++ opt (L.drop (k + 1))) := by
  have hk := (List.getElem?_eq_some_iff.1 h).1
  have e : L = L.take k ++ (b, x) :: L.drop (k + 1) := by
    have h1 := (List.getElem?_eq_some_iff.1 h).2
    rw [← h1, ← List.drop_eq_getElem_cons hk, List.take_append_drop]
  conv => lhs; rw [e]
  unfold opt
  rw [List.filter_append, List.map_append, List.filter_cons]
  cases b <;> simp
theorem opt_set {L : List (Bool × Cell3)} {k : Nat} {y z : Bool × Cell3} (h : L[k]? = some z) : opt (L.set k y) = opt (L.take k) ++ ((bif y.1 then [y.2] else []) ++ opt (L.drop (k + 1))) := by
  have hk := (List.getElem?_eq_some_iff.1 h).1
  have h2 : (L.set k y)[k]? = some (y.1, y.2) := by rw [List.getElem?_set_self hk]
  rw [opt_split h2, List.take_set_of_le (Nat.le_refl k), List.drop_set_of_lt (by omega)]
theorem Fr.on {w0 w : World} {L : List (Bool × Cell3)} (h : Fr w0 w (opt L)) {k : Nat} {x : Cell3} (hk : L[k]? = some (false, x)) (t : TypeId) (us : List Value) : ∃ g, w.heap.size = g ∧ Fr w0 (w.alloc (.cells us.toArray t)) (opt (L.set k (true, (g, t, us)))) := by
  rw [opt_split hk] at h
  obtain ⟨g, e, h2⟩ := h.more (opt (L.take k)).length t us
  refine ⟨g, e, ?_⟩
  rw [opt_set hk]
  simpa using h2
theorem Fr.rowo {w0 w : World} {L : List (Bool × Cell3)} (h : Fr w0 w (opt L)) {k g : Nat} {t : TypeId} {us : List Value} (hk : L[k]? = some (true, (g, t, us))) : Row w g t us :=
  h.all (g, t, us) (by rw [opt_split hk]; simp)
theorem Fr.puto {w0 w w' : World} {L : List (Bool × Cell3)} (h : Fr w0 w (opt L)) {k g : Nat} {t : TypeId} {us us' : List Value} (hk : L[k]? = some (true, (g, t, us))) (hr : Row w' g t us') (hg : w.grownBy w' (some g)) : Fr w0 w' (opt (L.set k (true, (g, t, us')))) := by
  have e : (opt L)[(opt (L.take k)).length]? = some (g, t, us) := by rw [opt_split hk]; simp
  have h2 := h.put e hr hg
  rw [opt_set hk]
  rw [opt_split hk] at h2
  simpa using h2
theorem wp_value {P : Program} {w : World} {o : Oper} {a : Act} {K : Act → World → Prop} {Q : Exit → Act → World → Prop} (v : Value) (h : (execOp a.eval o).run P w = .ok (.value v) w) (hk : K (a.put o.dst v) w) : o.wp P a w K Q := by
  unfold Oper.wp
  rw [h]
  exact hk
theorem Fr.five (w : World) (t1 t2 t3 t4 t5 : TypeId) (us vs xs ys zs : List Value) : ∃ w4 : World, ((((w.alloc (.cells us.toArray t1)).alloc (.cells vs.toArray t2)).alloc (.cells xs.toArray t3)).alloc (.cells ys.toArray t4)).alloc (.cells zs.toArray t5) = w4 ∧ Fr w w4 [(w.heap.size, t1, us), (w.heap.size + 1, t2, vs), (w.heap.size + 1 + 1, t3, xs), (w.heap.size + 1 + 1 + 1, t4, ys), (w.heap.size + 1 + 1 + 1 + 1, t5, zs)] := by
  obtain ⟨w2, e, h⟩ := Fr.three w t1 t2 t3 us vs xs
  obtain ⟨g2, e2, h2⟩ := h.more 3 t4 ys
  obtain ⟨g3, e3, h3⟩ := h2.more 4 t5 zs
  have hs : w2.heap.size = w.heap.size + 1 + 1 + 1 := by rw [← e, alloc_size, alloc_size, alloc_size]
  subst e2
  subst e3
  rw [alloc_size, hs] at h3
  rw [e]
  exact ⟨_, rfl, h3⟩
theorem Fr.four (w : World) (t1 t2 t3 t4 : TypeId) (us vs xs ys : List Value) : ∃ w4 : World, (((w.alloc (.cells us.toArray t1)).alloc (.cells vs.toArray t2)).alloc (.cells xs.toArray t3)).alloc (.cells ys.toArray t4) = w4 ∧ Fr w w4 [(w.heap.size, t1, us), (w.heap.size + 1, t2, vs), (w.heap.size + 1 + 1, t3, xs), (w.heap.size + 1 + 1 + 1, t4, ys)] := by
  obtain ⟨w2, e, h⟩ := Fr.three w t1 t2 t3 us vs xs
  obtain ⟨g2, e2, h2⟩ := h.more 3 t4 ys
  have hs : w2.heap.size = w.heap.size + 1 + 1 + 1 := by rw [← e, alloc_size, alloc_size, alloc_size]
  subst e2
  rw [hs] at h2
  rw [e]
  exact ⟨_, rfl, h2⟩
end Go.Proofs.YthjlbcbkllaicaaDoor
