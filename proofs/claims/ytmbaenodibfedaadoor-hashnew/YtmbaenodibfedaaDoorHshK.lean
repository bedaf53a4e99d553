/-
  Kit of the ninth stage; a hash's mathematics; numbers told, the padding, blocks taken: five texts in one. Conditions: as each says.
-/
import Derived.Test.YtmbaenodibfedaaDoorKit6
import Derived.Test.YtmbaenodibfedaaDoorKit7
import Derived.Test.YtmbaenodibfedaaDoorLay9
import Derived.Lib.SliceRun
namespace Go.Proofs.YtmbaenodibfedaaDoor
open Go.RowKit
set_option linter.unusedVariables false

/-- The array at the head of a block. -/
theorem run_load_head {P : Program} (w : World) {g n : Nat} {t ty e : TypeId} {us vs : List Value} (hg : Row w g t (us ++ vs)) (hu : P.underlying ty = some (.array n e)) (hi : (P.info? ty).map (·.size) = some us.length) :
    (loadVar ty ⟨g, 0, none⟩).run P w = .ok (.agg us.toArray) w := by
  have hl : (loadCells ⟨g, 0, none⟩ us.length).run P w = .ok us.toArray w :=
    run_loadCells_list (P := P) w ⟨g, 0, none⟩ us (fun j v hv => by
      have hadd : (⟨g, 0, none⟩ : Addr).add j = ⟨g, j, none⟩ := by unfold Addr.add; split <;> simp_all
      rw [hadd, hg.cell, List.getElem?_append_left (List.getElem?_eq_some_iff.1 hv).1]
      exact hv)
  cases hq : P.info? ty with
  | none => simp [hq] at hi
  | some i =>
    have hs : i.size = us.length := by simpa [hq] using hi
    have hagg : (isAgg ty).run P w = .ok true w := by
      unfold isAgg
      rw [Sem.run_bind, run_underlying hu w]
      simp
    simp [loadVar, Sem.run_bind, hagg, sizeOf, typeInfo, hq, hs, hl]
theorem exec_load_head {P : Program} {w : World} {o : Oper} {ev : Operand → Value} (ty : TypeId) (x : Operand) (ho : o.op = .load ty x) {g : Nat} (hx : ev x = .pointer (some ⟨g, 0, none⟩)) {t e : TypeId} {n : Nat} {us vs : List Value} (hg : Row w g t (us ++ vs))
    (hu : P.underlying ty = some (.array n e)) (hi : (P.info? ty).map (·.size) = some us.length) : (execOp ev o).run P w = .ok (.value (.agg us.toArray)) w := by
  unfold execOp
  simp only [ho, hx, Instr.loadAt, Instr.sureAddr, Sem.run_bind, Sem.run_pure, Result.andThen_ok, run_load_head w hg hu hi]
theorem run_store_head {P : Program} (w : World) {g : Nat} {t ty : TypeId} {old us vs : List Value} (hg : Row w g t (old ++ vs)) (hi : (P.info? ty).map (·.size) = some us.length) (ho : old.length = us.length) (h1 : us.all (·.oneCell') = true) :
    (storeVar ty ⟨g, 0, none⟩ (.agg us.toArray)).run P w = .ok () (w.setRow g (us ++ vs).toArray) := by
  have := run_storeCells_at P g 0 t us 0 (old ++ vs).toArray w hg (by simp; omega) (fun v hv => List.all_eq_true.1 h1 v hv)
  simp only [Nat.add_zero, Nat.zero_add, List.take_zero, List.nil_append] at this
  rw [show (old ++ vs).drop us.length = vs by rw [List.drop_append_of_le_length (by omega), List.drop_of_length_le (by omega), List.nil_append]] at this
  cases hq : P.info? ty with
  | none => simp [hq] at hi
  | some i =>
    have hs : us.length = i.size := by simp [hq] at hi; omega
    simp [storeVar, sizeOf, typeInfo, hq, Value.cells, hs, this]
theorem wp_store_head {P : Program} {w : World} {o : Oper} {a : Act} {K : Act → World → Prop} {Q : Exit → Act → World → Prop} (ty : TypeId) (x y : Operand) (ho : o.op = .store ty x y)
    (g : Nat) (us : List Value) (hx : a.eval x = .pointer (some ⟨g, 0, none⟩)) (hy : a.eval y = .agg us.toArray) {t : TypeId} {old vs : List Value} (hg : Row w g t (old ++ vs)) (hi : (P.info? ty).map (·.size) = some us.length)
    (hold : old.length = us.length) (h1 : us.all (·.oneCell') = true)
    (h : ∀ w', Row w' g t (us ++ vs) → w.grownBy w' (some g) → w'.heap.size = w.heap.size → K (a.put o.dst undef) w') : o.wp P a w K Q := by
  unfold Oper.wp execOp
  simp only [ho, hx, hy, Instr.storeAt, Instr.sureAddr, Sem.run_bind, Sem.run_pure, Result.andThen_ok, run_store_head w hg hi hold h1]
  exact h _ (hg.setRow _) ⟨rfl, rfl, rfl, by simp, fun k _ hk => setRow_other w g k _ (fun e => hk (by rw [e]))⟩ (by simp)

/-- Where an appended slice lies: in the old row, or in new memory. -/
theorem append_where {P : Program} {w w' : World} {base : Nat} {t ty e : TypeId} {z : Value} {i : TypeInfo} (ht : P.underlying t = some (.slice e)) (hi : P.info? e = some i) (hz : i.zero = some z) (hsize : i.size = 1)
    {v : Value} {n : Nat} {xs : List Value} (hown : w.ownsRow base e 1 v n xs) {ad : Addr} {m c : Nat} {ys : List Value} {v' : Value} (hl : ys.length = m) (hnews : ∀ j y, ys[j]? = some y → w.cell? (ad.add j) = some y) (h1 : ∀ u ∈ ys, u.oneCell' = true)
    (h63 : n + m ≤ maxLen) (hbytes : (n + m) * i.bytes ≤ 140737488355328) (hrun : (Builtin.append_ #[t, t] ty #[v, .slice (some ad) m c]).run P w = .ok v' w') :
    v'.ownBlock = v.ownBlock ∨ v'.ownBlock = some w.heap.size := by
  have hsm : n + m ≤ 9223372036854775807 := by simp only [maxLen] at h63; omega
  rcases hown.2 with ⟨rfl, rfl⟩ | ⟨g, cap, cur, rfl, hbg, hg, hnc, hcm, hcs, htake⟩
  · by_cases hm : m = 0
    · subst hm
      have hr : (Builtin.append_ #[t, t] ty #[.slice none 0 0, .slice (some ad) 0 c]).run P w = .ok (.slice none 0 0) w := by
        simp [Builtin.append_, run_underlying ht, sizeOf, typeInfo, hi, Builtin.lenOf, Builtin.firstCells, loadCells, loadCellsFrom]
      rw [hr] at hrun
      injection hrun with e1 _
      subst e1
      exact .inl rfl
    · have hr := run_append_nil (P := P) w t ty e i z ht hi hz ad m c ys (by rw [hsize, Nat.mul_one]; exact hl) hnews (by omega) (by omega) (by have hb := hbytes; simp only [Nat.zero_add] at hb; omega)
      rw [hr] at hrun
      injection hrun with e1 _
      subst e1
      exact .inr rfl
  · by_cases hroom : n + m ≤ cap
    · have hr := run_append_room (P := P) w t ty e i ht hi g n cap cur hg ad m c ys (by rw [hsize, Nat.mul_one]; exact hl) hnews h1 hroom (by rw [hsize, hcs]; omega)
      rw [hr] at hrun
      injection hrun with e1 _
      subst e1
      exact .inl rfl
    · have holds := hown.cells (g := g) rfl
      have hr := run_append_grow (P := P) w t ty e i z ht hi hz ⟨g, 0, none⟩ n cap xs (by rw [hsize]; exact hown.1) holds ad m c ys (by rw [hsize, Nat.mul_one]; exact hl) hnews (by omega) (by omega) (growslice_fits (by omega) hbytes)
      rw [hr] at hrun
      injection hrun with e1 _
      subst e1
      exact .inr rfl
/-- append(s, x...), s one's own, x whatever is read; where it lies. -/
theorem wp_append_at {P : Program} {w : World} {o : Oper} {a : Act} {K : Act → World → Prop} {Q : Exit → Act → World → Prop} (s x : Operand) (t : TypeId)
    (ho : o.op = .call { callee := .builtin .append, args := #[s, x], argTypes := #[t, t] })
    (base : Nat) (e : TypeId) (z : Value) (bytes : Nat) (ht : P.underlying t = some (.slice e)) (hinfo : (P.info? e).map (fun i => (i.zero, i.size, i.bytes)) = some (some z, 1, bytes)) (hzs : z.cells.size = 1)
    (v : Value) (n : Nat) (xs : List Value) (hs : a.eval s = v) (hown : w.ownsRow base e 1 v n xs) (sv : Value) (ys : List Value) (hx : a.eval x = sv) (hsl : SlV w sv ys) (h1 : ∀ u ∈ ys, u.oneCell' = true)
    (h63 : n + ys.length ≤ maxLen) (hbytes : (n + ys.length) * bytes ≤ 140737488355328) (hbase : base ≤ w.heap.size)
    (h : ∀ v' w', w'.ownsRow base e 1 v' (n + ys.length) (xs ++ ys) → w.grownBy w' v.ownBlock → (v'.ownBlock = v.ownBlock ∨ v'.ownBlock = some w.heap.size) → K (a.put o.dst v') w') : o.wp P a w K Q := by
  obtain ⟨i0, hi, hz0, hz1, hz2⟩ := info_parts hinfo
  obtain ⟨a', c', rfl, hle, hcm, hnone, hc⟩ := hsl
  by_cases h0 : a' = none
  · subst h0
    obtain rfl := hnone rfl
    obtain rfl : ys = [] := List.eq_nil_of_length_eq_zero (by omega)
    have hrun := run_append_owned_none (P := P) (w := w) base t o.type e i0 1 ht hi v n xs hown
    have hx' : a.eval x = .slice none 0 0 := by simpa using hx
    unfold Oper.wp
    simp [execOp, ho, resolve, invoke, builtin, hs, hx', hrun, Result.andThen]
    exact h v w (by simpa using hown) (grown_refl _ _) (.inl rfl)
  · obtain ⟨ad, rfl⟩ := Option.ne_none_iff_exists'.1 h0
    have hnews : ∀ j u, ys[j]? = some u → w.cell? (ad.add j) = some u := by
      intro j u hu
      have hp : 0 < ys.length := by
        have := (List.getElem?_eq_some_iff.1 hu).1
        omega
      obtain ⟨b, off, he, hcell⟩ := hc hp
      simp only [Option.some.injEq] at he
      subst he
      rw [Addr.add_lit]; exact hcell j u hu
    obtain ⟨v', w', hrun, ho', hg', _⟩ := run_append_own (P := P) (w := w) base t o.type e i0 z 1 bytes ht hi hz0 hz1 hz2 hzs (by decide) v n xs hown ad ys.length c' ys (by omega) hnews h1 h63 hbytes hbase
    have hw := append_where ht hi hz0 hz1 hown rfl hnews h1 h63 (by rw [hz2]; exact hbytes) hrun
    unfold Oper.wp
    simp [execOp, ho, resolve, invoke, builtin, hs, hx, hrun, Result.andThen]
    exact h v' w' ho' hg' hw
theorem wpList_append_at {P : Program} {w : World} {ops : Array Oper} {rest : List Oper} {o : Oper} {a : Act} {Q : Exit → Act → World → Prop} (hgd : o.guard = none) (s x : Operand) (t : TypeId)
    (ho : o.op = .call { callee := .builtin .append, args := #[s, x], argTypes := #[t, t] })
    (base : Nat) (e : TypeId) (z : Value) (bytes : Nat) (ht : P.underlying t = some (.slice e)) (hinfo : (P.info? e).map (fun i => (i.zero, i.size, i.bytes)) = some (some z, 1, bytes)) (hzs : z.cells.size = 1)
    (v : Value) (n : Nat) (xs : List Value) (hs : a.eval s = v) (hown : w.ownsRow base e 1 v n xs) (sv : Value) (ys : List Value) (hx : a.eval x = sv) (hsl : SlV w sv ys) (h1 : ∀ u ∈ ys, u.oneCell' = true)
    (h63 : n + ys.length ≤ maxLen) (hbytes : (n + ys.length) * bytes ≤ 140737488355328) (hbase : base ≤ w.heap.size)
    (h : ∀ v' w', w'.ownsRow base e 1 v' (n + ys.length) (xs ++ ys) → w.grownBy w' v.ownBlock → (v'.ownBlock = v.ownBlock ∨ v'.ownBlock = some w.heap.size) → wpList P ops Q rest (a.put o.dst v') w') : wpList P ops Q (o :: rest) a w :=
  wpList_plain hgd fun _ hK => wp_append_at s x t ho base e z bytes ht hinfo hzs v n xs hs hown sv ys hx hsl h1 h63 hbytes hbase fun v' w' h2 h3 h4 => hK _ _ (h v' w' h2 h3 h4)

/-- Everything that was there stays, but for block q and row r. -/
structure Kp (q : Nat) (r : Option Nat) (w w' : World) : Prop where
  os : w'.os = w.os
  tape : w'.tape = w.tape
  output : w'.output = w.output
  size : w.heap.size ≤ w'.heap.size
  block : ∀ k, k < w.heap.size → k ≠ q → some k ≠ r → w'.heap[k]? = w.heap[k]?
theorem Kp.refl (q : Nat) (r : Option Nat) (w : World) : Kp q r w w := ⟨rfl, rfl, rfl, Nat.le_refl _, fun _ _ _ _ => rfl⟩
theorem Kp.more {q : Nat} {r : Option Nat} {a b c : World} (h : Kp q r a b) (hb : Below b.heap.size b c) : Kp q r a c :=
  ⟨hb.os.trans h.os, hb.tape.trans h.tape, hb.output.trans h.output, Nat.le_trans h.size hb.size, fun k hk h1 h2 => (hb.block k (Nat.lt_of_lt_of_le hk h.size)).trans (h.block k hk h1 h2)⟩
/-- Something more was written: in q, in r, or in what is newer. -/
theorem Kp.grown {q : Nat} {r row : Option Nat} {a b c : World} (h : Kp q r a b) (hg : b.grownBy c row) (hr : ∀ k, row = some k → k = q ∨ some k = r ∨ a.heap.size ≤ k) : Kp q r a c :=
  ⟨hg.os.trans h.os, hg.tape.trans h.tape, hg.output.trans h.output, Nat.le_trans h.size hg.size, fun k hk h1 h2 => (hg.block k (Nat.lt_of_lt_of_le hk h.size) (fun e => by
    rcases hr k e.symm with h3 | h3 | h3
    · exact h1 h3
    · exact h2 h3
    · omega)).trans (h.block k hk h1 h2)⟩
theorem Kp.below {q B : Nat} {r : Option Nat} {w0 a b : World} (h0 : Below B w0 a) (h : Kp q r a b) (hB : B ≤ a.heap.size) (hq : B ≤ q) (hr : ∀ k, r = some k → B ≤ k) : Below B w0 b :=
  ⟨h.os.trans h0.os, h.tape.trans h0.tape, h.output.trans h0.output, Nat.le_trans h0.size h.size, fun k hk => (h.block k (by omega) (by omega) (fun e => by have := hr k e.symm; omega)).trans (h0.block k hk)⟩
theorem Kp.row {q g : Nat} {r : Option Nat} {a b : World} {e : TypeId} {us : List Value} (h : Kp q r a b) (hR : Row a g e us) (h1 : g ≠ q) (h2 : some g ≠ r) : Row b g e us := hR.keep (h.block g hR.lt h1 h2)
theorem Kp.sl {q : Nat} {r : Option Nat} {a b : World} {v : Value} {xs : List Value} (h : Kp q r a b) (hs : SlV a v xs) (h1 : v.ownBlock ≠ some q) (h2 : v.ownBlock = none ∨ v.ownBlock ≠ r) : SlV b v xs :=
  hs.keep fun k e hk => h.block k hk (fun e2 => h1 (by rw [e, e2])) (fun e2 => by
    rcases h2 with h2 | h2
    · rw [h2] at e; cases e
    · exact h2 (e.trans e2))
theorem Kp.own {q base n : Nat} {r : Option Nat} {a b : World} {e : TypeId} {v : Value} {xs : List Value} (h : Kp q r a b) (ho : a.ownsRow base e 1 v n xs) (h1 : v.ownBlock ≠ some q) (h2 : v.ownBlock = none ∨ v.ownBlock ≠ r) : b.ownsRow base e 1 v n xs := by
  refine ⟨ho.1, ?_⟩
  rcases ho.2 with hn | ⟨g, cap, cur, rfl, hb, hgg, rest⟩
  · exact .inl hn
  · refine .inr ⟨g, cap, cur, rfl, hb, ?_, rest⟩
    rw [h.block g (Array.getElem?_eq_some_iff.1 hgg).1 (fun e => h1 (by simp [Value.ownBlock, e])) (fun e => by
      rcases h2 with h2 | h2
      · simp [Value.ownBlock] at h2
      · exact h2 (by simpa [Value.ownBlock] using e))]
    exact hgg
/-- A row of another type is another block. -/
theorem own_ne {w : World} {base n q : Nat} {e T : TypeId} {v : Value} {xs us : List Value} (ho : w.ownsRow base e 1 v n xs) (hR : Row w q T us) (hT : e ≠ T) : v.ownBlock ≠ some q := by
  intro hq
  rcases ho.2 with ⟨rfl, _⟩ | ⟨g, cap, cur, rfl, _, hg, _⟩
  · simp [Value.ownBlock] at hq
  · simp only [Value.ownBlock, Option.some.injEq] at hq
    subst hq
    have := hg.symm.trans hR
    simp only [Option.some.injEq, Obj.cells.injEq] at this
    exact hT this.2.1
/-- s[:0]. -/
theorem own_cut0 {w : World} {base n : Nat} {e : TypeId} {a : Option Addr} {m cap : Nat} {xs : List Value} (ho : w.ownsRow base e 1 (.slice a m cap) n xs) : w.ownsRow base e 1 (.slice a 0 cap) 0 [] := by
  refine ⟨rfl, ?_⟩
  rcases ho.2 with ⟨h, _⟩ | ⟨g, c, cur, h, hb, hg, h1, h2, h3, h4⟩
  · simp only [Value.slice.injEq] at h
    obtain ⟨rfl, -, rfl⟩ := h
    exact .inl ⟨rfl, rfl⟩
  · simp only [Value.slice.injEq] at h
    obtain ⟨rfl, -, rfl⟩ := h
    exact .inr ⟨g, cap, cur, rfl, hb, hg, Nat.zero_le _, h2, h3, by simp⟩
end Go.Proofs.YtmbaenodibfedaaDoor
namespace Go.Proofs.YtmbaenodibfedaaDoor
open Go.RowKit
set_option linter.unusedVariables false

theorem exec_load_cell {P : Program} {w : World} {o : Oper} {ev : Operand → Value} (ty : TypeId) (x : Operand) (ho : o.op = .load ty x) {g off : Nat} (hx : ev x = .pointer (some ⟨g, off, none⟩)) {v : Value} (hc : w.cell? ⟨g, off, none⟩ = some v) {d : TypeDesc}
    (hu : P.underlying ty = some d) (hd : (match d with | .struct _ | .array _ _ => true | _ => false) = false) : (execOp ev o).run P w = .ok (.value v) w := by
  have hagg : (isAgg ty).run P w = .ok false w := by
    unfold isAgg
    rw [Sem.run_bind, run_underlying hu w]
    cases d <;> simp_all
  unfold execOp
  simp only [ho, hx, Instr.loadAt, Instr.sureAddr, Sem.run_bind, Sem.run_pure, Result.andThen_ok, loadVar, hagg]
  simp [go_sem, hc]
theorem wp_store_cell {P : Program} {w : World} {o : Oper} {a : Act} {K : Act → World → Prop} {Q : Exit → Act → World → Prop} (ty : TypeId) (x y : Operand) (ho : o.op = .store ty x y)
    (g off : Nat) (v : Value) (hx : a.eval x = .pointer (some ⟨g, off, none⟩)) (hy : a.eval y = v) (hv : v.cells = #[v]) (h1 : v.oneCell' = true) {t : TypeId} {us : List Value} (hg : Row w g t us) (hoff : off < us.length) (hi : (P.info? ty).map (·.size) = some 1)
    (h : ∀ w', Row w' g t (us.set off v) → w.grownBy w' (some g) → w'.heap.size = w.heap.size → K (a.put o.dst undef) w') : o.wp P a w K Q := by
  have hs := run_storeCells_at P g off t [v] 0 us.toArray w hg (by simp; omega) (fun u hu => by simp at hu; subst hu; exact h1)
  simp only [Nat.add_zero, List.length_singleton] at hs
  have hset : us.take off ++ [v] ++ us.drop (off + 1) = us.set off v := by
    rw [List.set_eq_take_append_cons_drop, if_pos hoff]; simp
  have hr : (storeVar ty ⟨g, off, none⟩ v).run P w = .ok () (w.setRow g (us.set off v).toArray) := by
    cases hq : P.info? ty with
    | none => simp [hq] at hi
    | some i =>
      have hz : i.size = 1 := by simpa [hq] using hi
      rw [hset] at hs
      simp [storeVar, sizeOf, typeInfo, hq, hv, hz, hs]
  unfold Oper.wp execOp
  simp only [ho, hx, hy, Instr.storeAt, Instr.sureAddr, Sem.run_bind, Sem.run_pure, Result.andThen_ok, hr]
  exact h _ (hg.setRow _) ⟨rfl, rfl, rfl, by simp, fun k _ hk => setRow_other w g k _ (fun e => hk (by rw [e]))⟩ (by simp)
theorem _root_.Go.World.ownsRow.drew' {w : World} {base n : Nat} {e : TypeId} {v : Value} {xs : List Value} (h : w.ownsRow base e 1 v n xs) : w.drew.ownsRow base e 1 v n xs := h
theorem own_cells {w : World} {base n : Nat} {e : TypeId} {v : Value} {xs : List Value} (h : w.ownsRow base e 1 v n xs) : v.cells = #[v] := by
  rcases h.2 with ⟨rfl, _⟩ | ⟨g, cap, cur, rfl, _⟩ <;> rfl
theorem own_oneCell {w : World} {base n : Nat} {e : TypeId} {v : Value} {xs : List Value} (h : w.ownsRow base e 1 v n xs) : v.oneCell' = true := by
  rcases h.2 with ⟨rfl, _⟩ | ⟨g, cap, cur, rfl, _⟩ <;> rfl
theorem wp_value {P : Program} {w : World} {o : Oper} {a : Act} {K : Act → World → Prop} {Q : Exit → Act → World → Prop} (v : Value) (h : (execOp a.eval o).run P w = .ok (.value v) w) (hk : K (a.put o.dst v) w) : o.wp P a w K Q := by
  unfold Oper.wp
  rw [h]
  exact hk
theorem Kp.drew {q : Nat} {r : Option Nat} {a b : World} (h : Kp q r a b) : Kp q r a b.drew := ⟨h.os, h.tape, h.output, h.size, h.block⟩
theorem slice_block {a : Option Addr} {n m c d : Nat} : (Value.slice a n c).ownBlock = (Value.slice a m d).ownBlock := by cases a <;> rfl
theorem cut_block {a : Option Addr} {n l c d m : Nat} : (Value.slice (if c = l then a else a.map (fun x => x.add l)) m d).ownBlock = (Value.slice a n c).ownBlock := by
  split
  · exact slice_block
  · cases a with
    | none => rfl
    | some x => simp [Value.ownBlock, Addr.add]; split <;> rfl
end Go.Proofs.YtmbaenodibfedaaDoor
namespace Go.Proofs.YtmbaenodibfedaaDoor.S9
set_option linter.unusedVariables false
section
variable {S : Type} (f : S → List Nat → S) (B : Nat) (s : S)
/-- The numbers behind n blocks. -/
def gbl (p : List Nat) : Nat → S
  | 0 => s
  | n + 1 => f (gbl p n) ((p.drop (B * n)).take B)
/-- The numbers behind the whole blocks. -/
def now (bs : List Nat) : S := gbl f B s bs (bs.length / B)
/-- What is behind them. -/
def rst (bs : List Nat) : List Nat := bs.drop (B * (bs.length / B))
theorem rst_length (bs : List Nat) (hB : 0 < B) : (rst B bs).length = bs.length % B := by
  rw [rst, List.length_drop]
  have := Nat.div_add_mod bs.length B
  omega
theorem rst_lo {bs : List Nat} {b : Nat} (h : Lo b bs) : Lo b (rst B bs) := h.drop _
theorem gbl_append (xs t : List Nat) (n : Nat) (h : B * n ≤ xs.length) : gbl f B s (xs ++ t) n = gbl f B s xs n := by
  induction n with
  | zero => rfl
  | succ n ih =>
    rw [Nat.mul_succ] at h
    rw [gbl, gbl, ih (by omega), List.drop_append_of_le_length (by omega), List.take_append_of_le_length (by simp; omega)]
theorem now_part (bs zs : List Nat) (hB : 0 < B) (h : bs.length % B + zs.length < B) : now f B s (bs ++ zs) = now f B s bs ∧ rst B (bs ++ zs) = rst B bs ++ zs := by
  have hd := Nat.div_add_mod bs.length B
  have hq : (bs ++ zs).length / B = bs.length / B := by
    rw [List.length_append, ← hd, Nat.add_assoc, Nat.mul_add_div hB, Nat.div_eq_of_lt h, hd]; rfl
  refine ⟨?_, ?_⟩
  · rw [now, hq]; exact gbl_append f B s bs zs _ (by omega)
  · rw [rst, hq, List.drop_append_of_le_length (by omega)]; rfl
theorem now_full (bs zs : List Nat) (hB : 0 < B) (h : bs.length % B + zs.length = B) : now f B s (bs ++ zs) = f (now f B s bs) (rst B bs ++ zs) ∧ rst B (bs ++ zs) = [] := by
  have hd := Nat.div_add_mod bs.length B
  have hl : (bs ++ zs).length = B * (bs.length / B + 1) := by rw [List.length_append, Nat.mul_succ]; omega
  have hq : (bs ++ zs).length / B = bs.length / B + 1 := by rw [hl]; exact Nat.mul_div_cancel_left _ hB
  refine ⟨?_, ?_⟩
  · rw [now, hq, gbl, gbl_append f B s bs zs _ (by omega), List.drop_append_of_le_length (by omega)]
    congr 1
    exact List.take_of_length_le (by rw [List.length_append, List.length_drop]; omega)
  · rw [rst, hq, ← hl]; exact List.drop_of_length_le (Nat.le_refl _)
end
end Go.Proofs.YtmbaenodibfedaaDoor.S9
namespace Go.Proofs.YtmbaenodibfedaaDoor.S9
open Go.RowKit
set_option linter.unusedVariables false
set_option maxRecDepth 10000

/-- The first n bytes of numbers of W bytes, of each the highest first. -/
def tb (W : Nat) (ws : List Nat) (n : Nat) : List Nat := (List.range n).map fun i => ws.getD (i / W) 0 / 2 ^ (8 * (W - 1 - i % W)) % 256
theorem tb_length (W : Nat) (ws : List Nat) (n : Nat) : (tb W ws n).length = n := by simp [tb]
theorem tb_get (W : Nat) (ws : List Nat) (n k : Nat) (h : k < n) : (tb W ws n).getD k 0 = ws.getD (k / W) 0 / 2 ^ (8 * (W - 1 - k % W)) % 256 := by simp [tb, h]
theorem tb_lo (W : Nat) (ws : List Nat) (n : Nat) : Lo 256 (tb W ws n) := by
  intro x hx
  obtain ⟨i, _, rfl⟩ := List.mem_map.1 hx
  exact Nat.mod_lt _ (by decide)
theorem own_upto {w : World} {base n k : Nat} {e : TypeId} {v : Value} {q : IntKind} {l : List Nat} {y : Int} (h : l.length = n) (hk : k < n) (hy : y = ((l.getD k 0 : Nat) : Int)) (ho : w.ownsRow base e 1 v n ((C q (upto l n k)).set k (.int q y))) : w.drew.ownsRow base e 1 v n (C q (upto l n (k + 1))) := by
  subst hy
  rw [← upto_succ h hk, C_set]
  exact ho
set_option maxHeartbeats 1600000 in
theorem tell32_any (v : Value) (ws : List Nat) (hws : Lo 4294967296 ws) (n : Nat) (hn : n ≤ 4 * ws.length) (hm : ws.length ≤ 100) (w : World) (hv : SlV w v (C .u32 ws)) :
    Calls Tryd.prog 64 #[v, .int .i64 4, .int .i64 (n : Int)] w fun e w' => ∃ v', e = .returned v' ∧ w'.ownsRow w.heap.size 5 1 v' n (C .u8 (tb 4 ws n)) ∧ Below w.heap.size w w' := by
  obtain ⟨N, hN⟩ : ∃ N, ws.length = N := ⟨_, rfl⟩
  obtain ⟨sa, sc, rfl, h1, h2⟩ := hv.shp hN
  obtain ⟨i0, hi, hz0, hz1, hz2⟩ := info_parts S2.inf8
  have hm' : n ≤ maxLen := by unfold maxLen; omega
  go_enter Tryd.func64, Tryd.ntmps64
  go_wp2_with (at_make; refine wpList_make_full _ rfl _ _ 22 rfl w.heap.size 5 i0 _ 1 Tryd.underlying22 hi hz0 hz1 _ _ _ _ n rfl rfl rfl rfl (by rw [hz2]; omega) hm' (Nat.le_refl _) ?_)
  intro w1 hown hgrow
  have hown := own_made hown
  have hs1 := hv.grown hgrow (by simp)
  have hb1 : Below w.heap.size w w1 := (Below.refl _ _).grown hgrow (Nat.le_refl _) (by simp)
  rw [← C_zeros, ← show Z n = List.replicate n 0 from rfl, ← upto_zero (tb 4 ws n) n] at hown
  clear hgrow
  go_wp2
  go_loopw [13] (fun i wr => ∃ k : Nat, k ≤ n ∧ i = .int .i64 k ∧ wr.ownsRow w.heap.size 5 1 (.slice (some ⟨w.heap.size, 0, none⟩) n n) n (C .u8 (upto (tb 4 ws n) n k)) ∧ Below w.heap.size w wr) (fun i _ => n - (intOf i).toNat)
  case atStart => exact ⟨0, Nat.zero_le _, rfl, hown, hb1⟩
  case round =>
    clear hown hb1 hs1
    obtain ⟨k, hk, rfl, ho, hb⟩ := hrel
    by_cases hlt : k < n
    · obtain ⟨b, off, rfl, hbl, hcx⟩ := (hv.below hb).cells (by rw [C_length]; omega)
      have hc := hcx (k / 4) _ (C_get .u32 (show k / 4 < ws.length by omega))
      have hx := hws.getD (by decide) (k / 4)
      have HG := Away.mk (tb_get 4 ws n k hlt)
      clear hcx
      generalize ws.getD (k / 4) 0 = x at *
      have hfr := ho.frozenAt k
      have hce : ∃ u, wr.cell? ⟨w.heap.size, k, none⟩ = some u := by
        rw [ho.cellAt _ (by omega)]
        exact ⟨_, List.getElem?_eq_getElem (by rw [C_length, upto_length (tb_length _ _ _) hk]; omega)⟩
      obtain ⟨u, hce⟩ := hce
      have hst := fun y => ho.stored k (.int .u8 y)
      have hr8 : k % 4 = 0 ∨ k % 4 = 1 ∨ k % 4 = 2 ∨ k % 4 = 3 := by omega
      rcases hr8 with hr | hr | hr | hr
      · have hri : (k : Int) % 4 = 0 := by omega
        rw [hr] at HG
        go_wp2
        go_region
        go_wp2
        go_roundw
        case rel => exact ⟨k + 1, by omega, by go_num, own_upto (tb_length _ _ _) hlt (by rw [HG.out]; simp <;> omega) (hst _).1, (hb.setCell (by simp) _).drew⟩
        case measure => simp [intOf]; omega
      · have hri : (k : Int) % 4 = 1 := by omega
        rw [hr] at HG
        go_wp2
        go_region
        go_wp2
        go_roundw
        case rel => exact ⟨k + 1, by omega, by go_num, own_upto (tb_length _ _ _) hlt (by rw [HG.out]; simp <;> omega) (hst _).1, (hb.setCell (by simp) _).drew⟩
        case measure => simp [intOf]; omega
      · have hri : (k : Int) % 4 = 2 := by omega
        rw [hr] at HG
        go_wp2
        go_region
        go_wp2
        go_roundw
        case rel => exact ⟨k + 1, by omega, by go_num, own_upto (tb_length _ _ _) hlt (by rw [HG.out]; simp <;> omega) (hst _).1, (hb.setCell (by simp) _).drew⟩
        case measure => simp [intOf]; omega
      · have hri : (k : Int) % 4 = 3 := by omega
        rw [hr] at HG
        go_wp2
        go_region
        go_wp2
        go_roundw
        case rel => exact ⟨k + 1, by omega, by go_num, own_upto (tb_length _ _ _) hlt (by rw [HG.out]; simp <;> omega) (hst _).1, (hb.setCell (by simp) _).drew⟩
        case measure => simp [intOf]; omega
    · obtain rfl : k = n := by omega
      rw [upto_all (tb_length _ _ _)] at ho
      go_wp2
      go_ret
      exact ⟨_, rfl, ho, hb⟩
set_option maxHeartbeats 1600000 in
theorem tell64_any (v : Value) (ws : List Nat) (hws : Lo 18446744073709551616 ws) (n : Nat) (hn : n ≤ 8 * ws.length) (hm : ws.length ≤ 100) (w : World) (hv : SlV w v (C .u64 ws)) :
    Calls Tryd.prog 65 #[v, .int .i64 8, .int .i64 (n : Int)] w fun e w' => ∃ v', e = .returned v' ∧ w'.ownsRow w.heap.size 5 1 v' n (C .u8 (tb 8 ws n)) ∧ Below w.heap.size w w' := by
  obtain ⟨N, hN⟩ : ∃ N, ws.length = N := ⟨_, rfl⟩
  obtain ⟨sa, sc, rfl, h1, h2⟩ := hv.shp hN
  obtain ⟨i0, hi, hz0, hz1, hz2⟩ := info_parts S2.inf8
  have hm' : n ≤ maxLen := by unfold maxLen; omega
  go_enter Tryd.func65, Tryd.ntmps65
  go_wp2_with (at_make; refine wpList_make_full _ rfl _ _ 22 rfl w.heap.size 5 i0 _ 1 Tryd.underlying22 hi hz0 hz1 _ _ _ _ n rfl rfl rfl rfl (by rw [hz2]; omega) hm' (Nat.le_refl _) ?_)
  intro w1 hown hgrow
  have hown := own_made hown
  have hs1 := hv.grown hgrow (by simp)
  have hb1 : Below w.heap.size w w1 := (Below.refl _ _).grown hgrow (Nat.le_refl _) (by simp)
  rw [← C_zeros, ← show Z n = List.replicate n 0 from rfl, ← upto_zero (tb 8 ws n) n] at hown
  clear hgrow
  go_wp2
  go_loopw [13] (fun i wr => ∃ k : Nat, k ≤ n ∧ i = .int .i64 k ∧ wr.ownsRow w.heap.size 5 1 (.slice (some ⟨w.heap.size, 0, none⟩) n n) n (C .u8 (upto (tb 8 ws n) n k)) ∧ Below w.heap.size w wr) (fun i _ => n - (intOf i).toNat)
  case atStart => exact ⟨0, Nat.zero_le _, rfl, hown, hb1⟩
  case round =>
    clear hown hb1 hs1
    obtain ⟨k, hk, rfl, ho, hb⟩ := hrel
    by_cases hlt : k < n
    · obtain ⟨b, off, rfl, hbl, hcx⟩ := (hv.below hb).cells (by rw [C_length]; omega)
      have hc := hcx (k / 8) _ (C_get .u64 (show k / 8 < ws.length by omega))
      have hx := hws.getD (by decide) (k / 8)
      have HG := Away.mk (tb_get 8 ws n k hlt)
      clear hcx
      generalize ws.getD (k / 8) 0 = x at *
      have hfr := ho.frozenAt k
      have hce : ∃ u, wr.cell? ⟨w.heap.size, k, none⟩ = some u := by
        rw [ho.cellAt _ (by omega)]
        exact ⟨_, List.getElem?_eq_getElem (by rw [C_length, upto_length (tb_length _ _ _) hk]; omega)⟩
      obtain ⟨u, hce⟩ := hce
      have hst := fun y => ho.stored k (.int .u8 y)
      have hr8 : k % 8 = 0 ∨ k % 8 = 1 ∨ k % 8 = 2 ∨ k % 8 = 3 ∨ k % 8 = 4 ∨ k % 8 = 5 ∨ k % 8 = 6 ∨ k % 8 = 7 := by omega
      rcases hr8 with hr | hr | hr | hr | hr | hr | hr | hr
      · have hri : (k : Int) % 8 = 0 := by omega
        rw [hr] at HG
        go_wp2
        go_region
        go_wp2
        go_roundw
        case rel => exact ⟨k + 1, by omega, by go_num, own_upto (tb_length _ _ _) hlt (by rw [HG.out]; simp <;> omega) (hst _).1, (hb.setCell (by simp) _).drew⟩
        case measure => simp [intOf]; omega
      · have hri : (k : Int) % 8 = 1 := by omega
        rw [hr] at HG
        go_wp2
        go_region
        go_wp2
        go_roundw
        case rel => exact ⟨k + 1, by omega, by go_num, own_upto (tb_length _ _ _) hlt (by rw [HG.out]; simp <;> omega) (hst _).1, (hb.setCell (by simp) _).drew⟩
        case measure => simp [intOf]; omega
      · have hri : (k : Int) % 8 = 2 := by omega
        rw [hr] at HG
        go_wp2
        go_region
        go_wp2
        go_roundw
        case rel => exact ⟨k + 1, by omega, by go_num, own_upto (tb_length _ _ _) hlt (by rw [HG.out]; simp <;> omega) (hst _).1, (hb.setCell (by simp) _).drew⟩
        case measure => simp [intOf]; omega
      · have hri : (k : Int) % 8 = 3 := by omega
        rw [hr] at HG
        go_wp2
        go_region
        go_wp2
        go_roundw
        case rel => exact ⟨k + 1, by omega, by go_num, own_upto (tb_length _ _ _) hlt (by rw [HG.out]; simp <;> omega) (hst _).1, (hb.setCell (by simp) _).drew⟩
        case measure => simp [intOf]; omega
      · have hri : (k : Int) % 8 = 4 := by omega
        rw [hr] at HG
        go_wp2
        go_region
        go_wp2
        go_roundw
        case rel => exact ⟨k + 1, by omega, by go_num, own_upto (tb_length _ _ _) hlt (by rw [HG.out]; simp <;> omega) (hst _).1, (hb.setCell (by simp) _).drew⟩
        case measure => simp [intOf]; omega
      · have hri : (k : Int) % 8 = 5 := by omega
        rw [hr] at HG
        go_wp2
        go_region
        go_wp2
        go_roundw
        case rel => exact ⟨k + 1, by omega, by go_num, own_upto (tb_length _ _ _) hlt (by rw [HG.out]; simp <;> omega) (hst _).1, (hb.setCell (by simp) _).drew⟩
        case measure => simp [intOf]; omega
      · have hri : (k : Int) % 8 = 6 := by omega
        rw [hr] at HG
        go_wp2
        go_region
        go_wp2
        go_roundw
        case rel => exact ⟨k + 1, by omega, by go_num, own_upto (tb_length _ _ _) hlt (by rw [HG.out]; simp <;> omega) (hst _).1, (hb.setCell (by simp) _).drew⟩
        case measure => simp [intOf]; omega
      · have hri : (k : Int) % 8 = 7 := by omega
        rw [hr] at HG
        go_wp2
        go_region
        go_wp2
        go_roundw
        case rel => exact ⟨k + 1, by omega, by go_num, own_upto (tb_length _ _ _) hlt (by rw [HG.out]; simp <;> omega) (hst _).1, (hb.setCell (by simp) _).drew⟩
        case measure => simp [intOf]; omega
    · obtain rfl : k = n := by omega
      rw [upto_all (tb_length _ _ _)] at ho
      go_wp2
      go_ret
      exact ⟨_, rfl, ho, hb⟩
/-- The count. -/
def cn (B : Nat) (c : Nat) : List Nat := if B = 128 then S3.cnt c else S1.be8 c
theorem cn_length (B c : Nat) : (cn B c).length = if B = 128 then 16 else 8 := by unfold cn; split <;> rfl
theorem tb_one (x : Nat) : tb 8 [x] 8 = S1.be8 x := rfl
theorem tb_two (x : Nat) : tb 8 [0, x] 16 = S3.cnt x := by
  have e : tb 8 [0, x] 16 = [0 / 2 ^ (8 * 7) % 256, 0 / 2 ^ (8 * 6) % 256, 0 / 2 ^ (8 * 5) % 256, 0 / 2 ^ (8 * 4) % 256, 0 / 2 ^ (8 * 3) % 256, 0 / 2 ^ (8 * 2) % 256, 0 / 2 ^ (8 * 1) % 256, 0 / 2 ^ (8 * 0) % 256] ++ S1.be8 x := rfl
  rw [e]
  rfl
theorem bits_small (x : Nat) (hx : x < 1152921504606846976) (w : World) :
    Calls Tryd.prog 102 #[.int .u64 (x : Int), .int .i64 64] w fun e w' => ∃ v', e = .returned v' ∧ w'.ownsRow w.heap.size 5 1 v' 8 (C .u8 (cn 64 (8 * x))) ∧ Below w.heap.size w w' := by
  go_enter Tryd.func102, Tryd.ntmps102
  go_wp2_with fail
  refine (S3.mul64_any x hx _).mono ?_
  rintro _ w1 ⟨rfl, rfl⟩
  have hA : Below w.heap.size w (w.alloc (.cells (C .u64 [8 * x]).toArray 37)) := (Below.refl _ _).alloc (Nat.le_refl _) _
  have hs : SlV (w.alloc (.cells (C .u64 [8 * x]).toArray 37)) (.slice (some ⟨w.heap.size, 0, none⟩) 1 1) (C .u64 [8 * x]) := SlV_one w (.int .u64 ((8 * x : Nat) : Int)) 37
  go_wp2_with fail
  refine (tell64_any _ [8 * x] (by intro y hy; simp at hy; omega) 8 (by simp) (by simp) _ hs).mono ?_
  rintro _ w2 ⟨v2, rfl, ho, hb⟩
  have ho := own_base ho hA.size
  have hb := hA.trans (hb.mono hA.size)
  rw [tb_one] at ho
  go_wp2
  go_ret
  exact ⟨_, rfl, ho, hb⟩
theorem bits_large (x : Nat) (hx : x < 1152921504606846976) (w : World) :
    Calls Tryd.prog 102 #[.int .u64 (x : Int), .int .i64 128] w fun e w' => ∃ v', e = .returned v' ∧ w'.ownsRow w.heap.size 5 1 v' 16 (C .u8 (cn 128 (8 * x))) ∧ Below w.heap.size w w' := by
  go_enter Tryd.func102, Tryd.ntmps102
  go_wp2_with fail
  refine (S3.mul64_any x hx _).mono ?_
  rintro _ w1 ⟨rfl, rfl⟩
  have hA : Below w.heap.size w (w.alloc (.cells (C .u64 [0, 8 * x]).toArray 37)) := (Below.refl _ _).alloc (Nat.le_refl _) _
  have hs : SlV (w.alloc (.cells (C .u64 [0, 8 * x]).toArray 37)) (.slice (some ⟨w.heap.size, 0, none⟩) 2 2) (C .u64 [0, 8 * x]) := SlV_newF w (C .u64 [0, 8 * x]) 37 (0, 0) (by rw [C_length]; show 2 ≤ maxLen; decide)
  go_wp2_with fail
  refine (tell64_any _ [0, 8 * x] (by intro y hy; simp at hy; omega) 16 (by simp) (by simp) _ hs).mono ?_
  rintro _ w2 ⟨v2, rfl, ho, hb⟩
  have ho := own_base ho hA.size
  have hb := hA.trans (hb.mono hA.size)
  rw [tb_two] at ho
  go_wp2
  go_ret
  exact ⟨_, rfl, ho, hb⟩
theorem clone_any (v : Value) (xs : List Nat) (w : World) (hs : SlV w v (C .u8 xs)) (hm : xs.length ≤ 1000000) :
    Calls Tryd.prog 101 #[v] w fun e w' => ∃ v', e = .returned v' ∧ w'.ownsRow w.heap.size 5 1 v' xs.length (C .u8 xs) ∧ Below w.heap.size w w' := by
  obtain ⟨N, hN⟩ : ∃ N, xs.length = N := ⟨_, rfl⟩
  obtain ⟨sa, sc, rfl, h1, h2⟩ := hs.shp hN
  rw [hN]
  have qT : ∀ (w : World) (a : Option Addr) (n c n' c' : Nat), (binOp .eql 22 (.slice a n c) (.slice none n' c')).run Tryd.prog w = .ok (.bool a.isNone) w := fun w a n c n' c' => Lib.run_eql_slice_nil w _ _ a n c n' c' Tryd.underlying22
  cases sa with
  | none =>
    have h0 : N = 0 := by
      by_cases hp : 0 < N
      · obtain ⟨b, off, e, _⟩ := hs.cells (by rw [C_length]; omega)
        cases e
      · omega
    subst h0
    obtain rfl : xs = [] := List.eq_nil_of_length_eq_zero hN
    go_enter Tryd.func101, Tryd.ntmps101
    go_wp2
    go_ret
    exact ⟨_, rfl, World.ownsRow_nil w _ _ _, Below.refl _ _⟩
  | some ad =>
    have hA : Below w.heap.size w (w.alloc (.cells #[] 5)) := (Below.refl _ _).alloc (Nat.le_refl _) _
    have hsA := hs.below hA
    have hoA := own_empty w w.heap.size 5 (Nat.le_refl _)
    go_enter Tryd.func101, Tryd.ntmps101
    go_wp2_with (at_builtin; refine wpList_append_sl rfl (.tmp 5) (.tmp 6) 22 rfl w.heap.size 5 _ 1 Tryd.underlying22 S2.inf8 rfl _ 0 [] rfl hoA _ (C .u8 xs) rfl hsA (C_one _ _) (by rw [C_length]; unfold maxLen; omega) (by rw [C_length]; omega) (by simp) ?_)
    intro v1 w1 ho1 hg1
    have hb1 : Below w.heap.size w w1 := hA.grown hg1 hA.size (fun k hk => (hoA.lt k hk).1)
    have ho1 : w1.ownsRow w.heap.size 5 1 v1 N (C .u8 xs) := by simpa [C_length, hN] using ho1
    go_wp2
    go_ret
    exact ⟨_, rfl, ho1, hb1⟩
/-- What stands behind x bytes: blocks of B bytes, a count of c. -/
def pdg (B c x : Nat) : List Nat := 128 :: (Z ((B - (x + (c + 1)) % B) % B) ++ cn B (8 * x))
set_option maxHeartbeats 1600000 in
theorem padding_small (x : Nat) (hx : x < 1152921504606846000) (w : World) :
    Calls Tryd.prog 100 #[.int .u64 (x : Int), .int .i64 64] w fun e w' => ∃ v' n, e = .returned v' ∧ w'.ownsRow w.heap.size 5 1 v' n (C .u8 (pdg 64 8 x)) ∧ Below w.heap.size w w' := by
  obtain ⟨z, hz⟩ : ∃ z, (64 - (x + 9) % 64) % 64 = z := ⟨_, rfl⟩
  have HZ := Away.mk hz
  have hz1 : z < 64 := by omega
  have hz2 : (x + 9 + z) % 64 = 0 := by omega
  have hz3 : ∀ j, j < z → (x + 9 + j) % 64 ≠ 0 := by intro j hj; omega
  clear hz
  go_enter Tryd.func100, Tryd.ntmps100
  go_wp2_with fail
  refine (bits_small x (by omega) _).mono ?_
  rintro _ w1 ⟨cv, rfl, hoc, hb1⟩
  have hsc := SlV.ofOwn hoc
  have hcl : (cn 64 (8 * x)).length = 8 := cn_length _ _
  obtain ⟨ca, cc, rfl, hc1, hc2⟩ := hsc.shp hcl
  have hR := Row.new w1 5 (C .u8 [128])
  have ho := hR.owns (base := w1.heap.size) (n := 1) (cap := 1) (Nat.le_refl _) (by simp [C]) (by simp [C, maxLen])
  have hA := (Below.more (Below.refl w1.heap.size w1) (Nat.le_refl _) (.cells (C .u8 [128]).toArray 5)).1
  have e1 : (C .u8 [128]).take 1 = C .u8 (128 :: Z 0) := rfl
  rw [e1] at ho
  clear hR e1 hoc
  have hsz1 := hb1.size
  go_wp2
  go_loopw [6] (fun v wr => ∃ j : Nat, v = v ∧ j ≤ z ∧ lenS v = 1 + j ∧ wr.ownsRow w1.heap.size 5 1 v (1 + j) (C .u8 (128 :: Z j)) ∧ Below w1.heap.size w1 wr) (fun v _ => 1 + z - lenS v)
  case atStart => exact ⟨0, rfl, Nat.zero_le _, rfl, ho, hA⟩
  case round =>
    clear ho hA
    obtain ⟨j, -, hj, hlen, ho, hb⟩ := hrel
    have hso := SlV.ofOwn ho
    obtain ⟨p, hp⟩ : ∃ p, 1 + j = p := ⟨_, rfl⟩
    rw [hp] at ho
    obtain ⟨sa, sc, rfl, h1, h2⟩ := hso.shp (n := p) (by simp [Z_length]; omega)
    by_cases hlt : j < z
    · have hd : (((x : Int) + ((p : Int) + 8)) % 64 != 0) = true := by
        have := hz3 j hlt
        simp only [bne_iff_ne, ne_eq]
        omega
      have hoA := ho.alloc (.cells #[.int .u8 0] 5)
      have hsA := SlV_one wr (.int .u8 0) 5
      have hbA := Below.more hb hb.size (.cells #[.int .u8 0] 5)
      clear hso
      go_wp2_with (at_builtin; refine wpList_append_sl rfl (.tmp 23) (.tmp 24) 22 rfl w1.heap.size 5 _ 1 Tryd.underlying22 S2.inf8 rfl _ p _ rfl hoA _ [.int .u8 0] rfl hsA (by simp [Value.oneCell']) (by simp [maxLen]; omega) (by simp; omega) hbA.2 ?_)
      intro v2 w2 ho2 hg2
      have hb2 : Below w1.heap.size w1 w2 := hbA.1.grown hg2 hbA.2 (fun k hk => (hoA.lt k hk).1)
      have ho2 : w2.ownsRow w1.heap.size 5 1 v2 (1 + (j + 1)) (C .u8 (128 :: Z (j + 1))) := by
        have e : C .u8 (128 :: Z (j + 1)) = C .u8 (128 :: Z j) ++ [.int .u8 0] := by
          rw [Z, List.replicate_succ', ← List.cons_append, C_append]; rfl
        rw [e, show 1 + (j + 1) = p + [Value.int .u8 0].length by simp; omega]
        exact ho2
      clear hg2 hoA hsA hbA ho hb
      have hlen2 : lenS v2 = 1 + (j + 1) := by
        obtain ⟨a2, c2, rfl, _, _⟩ := (SlV.ofOwn ho2).shp (n := 1 + (j + 1)) (by simp [Z_length]; omega)
        rfl
      go_wp2
      go_roundw
      case rel => exact ⟨j + 1, trivial, by omega, hlen2, ho2, hb2⟩
      case measure => rw [hlen2]; simp only [lenS]; omega
    · obtain rfl : j = z := by omega
      have hd : (((x : Int) + ((p : Int) + 8)) % 64 != 0) = false := by
        simp only [bne_eq_false_iff_eq]
        omega
      have hsA := hsc.below hb
      go_wp2_with (at_builtin; refine wpList_append_sl rfl (.tmp 26) (.tmp 27) 22 rfl w1.heap.size 5 _ 1 Tryd.underlying22 S2.inf8 rfl _ p _ rfl ho _ (C .u8 (cn 64 (8 * x))) rfl hsA (C_one _ _) (by rw [C_length, hcl]; unfold maxLen; omega) (by rw [C_length, hcl]; omega) hb.size ?_)
      intro v2 w2 ho2 hg2
      have hb2 : Below w1.heap.size w1 w2 := hb.grown hg2 hb.size (fun k hk => (ho.lt k hk).1)
      have ho2 : w2.ownsRow w.heap.size 5 1 v2 (p + 8) (C .u8 (pdg 64 8 x)) := by
        have e : C .u8 (pdg 64 8 x) = C .u8 (128 :: Z j) ++ C .u8 (cn 64 (8 * x)) := by
          rw [pdg, HZ.out, ← C_append]; rfl
        rw [C_length, hcl] at ho2
        rw [e]
        exact own_base ho2 hsz1
      have hbF := hb1.trans (hb2.mono hsz1)
      clear hg2 hsA hso ho hb hb2
      go_wp2
      go_ret
      exact ⟨_, _, rfl, ho2, hbF⟩
set_option maxHeartbeats 1600000 in
theorem padding_large (x : Nat) (hx : x < 1152921504606846000) (w : World) :
    Calls Tryd.prog 100 #[.int .u64 (x : Int), .int .i64 128] w fun e w' => ∃ v' n, e = .returned v' ∧ w'.ownsRow w.heap.size 5 1 v' n (C .u8 (pdg 128 16 x)) ∧ Below w.heap.size w w' := by
  obtain ⟨z, hz⟩ : ∃ z, (128 - (x + 17) % 128) % 128 = z := ⟨_, rfl⟩
  have HZ := Away.mk hz
  have hz1 : z < 128 := by omega
  have hz2 : (x + 17 + z) % 128 = 0 := by omega
  have hz3 : ∀ j, j < z → (x + 17 + j) % 128 ≠ 0 := by intro j hj; omega
  clear hz
  go_enter Tryd.func100, Tryd.ntmps100
  go_wp2_with fail
  refine (bits_large x (by omega) _).mono ?_
  rintro _ w1 ⟨cv, rfl, hoc, hb1⟩
  have hsc := SlV.ofOwn hoc
  have hcl : (cn 128 (8 * x)).length = 16 := cn_length _ _
  obtain ⟨ca, cc, rfl, hc1, hc2⟩ := hsc.shp hcl
  have hR := Row.new w1 5 (C .u8 [128])
  have ho := hR.owns (base := w1.heap.size) (n := 1) (cap := 1) (Nat.le_refl _) (by simp [C]) (by simp [C, maxLen])
  have hA := (Below.more (Below.refl w1.heap.size w1) (Nat.le_refl _) (.cells (C .u8 [128]).toArray 5)).1
  have e1 : (C .u8 [128]).take 1 = C .u8 (128 :: Z 0) := rfl
  rw [e1] at ho
  clear hR e1 hoc
  have hsz1 := hb1.size
  go_wp2
  go_loopw [6] (fun v wr => ∃ j : Nat, v = v ∧ j ≤ z ∧ lenS v = 1 + j ∧ wr.ownsRow w1.heap.size 5 1 v (1 + j) (C .u8 (128 :: Z j)) ∧ Below w1.heap.size w1 wr) (fun v _ => 1 + z - lenS v)
  case atStart => exact ⟨0, rfl, Nat.zero_le _, rfl, ho, hA⟩
  case round =>
    clear ho hA
    obtain ⟨j, -, hj, hlen, ho, hb⟩ := hrel
    have hso := SlV.ofOwn ho
    obtain ⟨p, hp⟩ : ∃ p, 1 + j = p := ⟨_, rfl⟩
    rw [hp] at ho
    obtain ⟨sa, sc, rfl, h1, h2⟩ := hso.shp (n := p) (by simp [Z_length]; omega)
    by_cases hlt : j < z
    · have hd : (((x : Int) + ((p : Int) + 16)) % 128 != 0) = true := by
        have := hz3 j hlt
        simp only [bne_iff_ne, ne_eq]
        omega
      have hoA := ho.alloc (.cells #[.int .u8 0] 5)
      have hsA := SlV_one wr (.int .u8 0) 5
      have hbA := Below.more hb hb.size (.cells #[.int .u8 0] 5)
      clear hso
      go_wp2_with (at_builtin; refine wpList_append_sl rfl (.tmp 23) (.tmp 24) 22 rfl w1.heap.size 5 _ 1 Tryd.underlying22 S2.inf8 rfl _ p _ rfl hoA _ [.int .u8 0] rfl hsA (by simp [Value.oneCell']) (by simp [maxLen]; omega) (by simp; omega) hbA.2 ?_)
      intro v2 w2 ho2 hg2
      have hb2 : Below w1.heap.size w1 w2 := hbA.1.grown hg2 hbA.2 (fun k hk => (hoA.lt k hk).1)
      have ho2 : w2.ownsRow w1.heap.size 5 1 v2 (1 + (j + 1)) (C .u8 (128 :: Z (j + 1))) := by
        have e : C .u8 (128 :: Z (j + 1)) = C .u8 (128 :: Z j) ++ [.int .u8 0] := by
          rw [Z, List.replicate_succ', ← List.cons_append, C_append]; rfl
        rw [e, show 1 + (j + 1) = p + [Value.int .u8 0].length by simp; omega]
        exact ho2
      clear hg2 hoA hsA hbA ho hb
      have hlen2 : lenS v2 = 1 + (j + 1) := by
        obtain ⟨a2, c2, rfl, _, _⟩ := (SlV.ofOwn ho2).shp (n := 1 + (j + 1)) (by simp [Z_length]; omega)
        rfl
      go_wp2
      go_roundw
      case rel => exact ⟨j + 1, trivial, by omega, hlen2, ho2, hb2⟩
      case measure => rw [hlen2]; simp only [lenS]; omega
    · obtain rfl : j = z := by omega
      have hd : (((x : Int) + ((p : Int) + 16)) % 128 != 0) = false := by
        simp only [bne_eq_false_iff_eq]
        omega
      have hsA := hsc.below hb
      go_wp2_with (at_builtin; refine wpList_append_sl rfl (.tmp 26) (.tmp 27) 22 rfl w1.heap.size 5 _ 1 Tryd.underlying22 S2.inf8 rfl _ p _ rfl ho _ (C .u8 (cn 128 (8 * x))) rfl hsA (C_one _ _) (by rw [C_length, hcl]; unfold maxLen; omega) (by rw [C_length, hcl]; omega) hb.size ?_)
      intro v2 w2 ho2 hg2
      have hb2 : Below w1.heap.size w1 w2 := hb.grown hg2 hb.size (fun k hk => (ho.lt k hk).1)
      have ho2 : w2.ownsRow w.heap.size 5 1 v2 (p + 16) (C .u8 (pdg 128 16 x)) := by
        have e : C .u8 (pdg 128 16 x) = C .u8 (128 :: Z j) ++ C .u8 (cn 128 (8 * x)) := by
          rw [pdg, HZ.out, ← C_append]; rfl
        rw [C_length, hcl] at ho2
        rw [e]
        exact own_base ho2 hsz1
      have hbF := hb1.trans (hb2.mono hsz1)
      clear hg2 hsA hso ho hb hb2
      go_wp2
      go_ret
      exact ⟨_, _, rfl, ho2, hbF⟩
end Go.Proofs.YtmbaenodibfedaaDoor.S9
namespace Go.Proofs.YtmbaenodibfedaaDoor.S9
open Go.RowKit
set_option linter.unusedVariables false
set_option maxRecDepth 10000

theorem tb_take (W : Nat) (ws : List Nat) {n m : Nat} (h : n ≤ m) : (tb W ws m).take n = tb W ws n := by
  simp [tb, ← List.map_take, List.take_range, Nat.min_eq_left h]
namespace W1
theorem lo_list {s : S1.S5} (h : s.ok) : Lo 4294967296 s.list := by
  obtain ⟨h1, h2, h3, h4, h5⟩ := h
  intro x hx
  simp only [S1.S5.list, List.mem_cons, List.not_mem_nil, or_false] at hx
  rcases hx with rfl | rfl | rfl | rfl | rfl <;> assumption
theorem out_all (s : S1.S5) : tb 4 s.list 20 = S1.out1 s := by
  simp [tb, List.range, List.range.loop, S1.out1, S1.out4, S1.S5.list]
theorem out_tb (s : S1.S5) (n : Nat) (hn : n ≤ 20) : tb 4 s.list n = (S1.out1 s).take n := by
  rw [← tb_take 4 s.list hn, out_all]
theorem take_any (s : S1.S5) (hs : s.ok) (v : Value) (b : List Nat) (hb : Lo 256 b) (hl : b.length = 64) (w : World) (hv : SlV w v (C .u8 b)) (hT : Tabs w) :
    Calls Tryd.prog 46 #[.agg (C .u32 s.list).toArray, v] w fun e w' => e = .returned (.agg (C .u32 (S1.blk1 s b).list).toArray) ∧ Below w.heap.size w w' := by
  obtain ⟨sa, sc, rfl, h1, h2⟩ := hv.shp hl
  have hA := ((Row.new w 59 (C .u32 s.list)).alloc (.cells (C .u32 (Z 5)).toArray 59)).alloc (.cells (C .u8 (Z 64)).toArray 47)
  have hB := (Row.newAt (w.alloc (.cells (C .u32 s.list).toArray 59)) (w.heap.size + 1) (by simp) 59 (C .u32 (Z 5))).alloc (.cells (C .u8 (Z 64)).toArray 47)
  have hC := Row.newAt ((w.alloc (.cells (C .u32 s.list).toArray 59)).alloc (.cells (C .u32 (Z 5)).toArray 59)) (w.heap.size + 1 + 1) (by simp) 47 (C .u8 (Z 64))
  have hL0 := Below.more (Below.refl w.heap.size w) (Nat.le_refl _) (.cells (C .u32 s.list).toArray 59)
  have hL1 := Below.more hL0.1 hL0.2 (.cells (C .u32 (Z 5)).toArray 59)
  have hL := (Below.more hL1.1 hL1.2 (.cells (C .u8 (Z 64)).toArray 47)).1
  clear hL0 hL1
  have hv3 := hv.below hL
  have hBn : (C .u8 (Z 64)).length = 64 := by rw [C_length, Z_length]
  have hcat : (C .u8 b).take 64 ++ (C .u8 (Z 64)).drop 64 = C .u8 b := by
    rw [List.drop_of_length_le (by rw [hBn]; exact Nat.le_refl _), List.append_nil, List.take_of_length_le (by rw [C_length, hl]; exact Nat.le_refl _)]
  have HQ := Away.mk hcat
  clear hcat
  have hib : (Tryd.prog.info? 47).map (·.size) = some (C .u8 b).toArray.size := by rw [C_size, hl]; exact S1.i64
  have his : (Tryd.prog.info? 59).map (·.size) = some (C .u32 s.list).toArray.size := S1.i5
  obtain ⟨F, hFe⟩ : ∃ F, S1.blk1 s b = F := ⟨_, rfl⟩
  have HF := Away.mk hFe
  clear hFe
  go_enter Tryd.func46, Tryd.ntmps46
  go_wp2_with (first | refine wpList_alloc_row rfl 59 rfl _ S1.z5 ?_ | refine wpList_alloc_row rfl 47 rfl _ S1.z64 ?_ | (refine wpList_copy_R rfl _ _ 22 rfl 5 Tryd.underlying22 S2.i1b (w.heap.size + 1 + 1) 64 64 64 (C .u8 (Z 64)) (C .u8 b) sa sc rfl rfl hC hv3 hBn (C_allL _ _) ?_; intro w4 hC4 hg4 hz4; rw [HQ.out] at hC4; have hA4 := hA.grown hg4 (by simp <;> omega); have hB4 := hB.grown hg4 (by simp <;> omega); have hL4 := below_grown hL hg4 (by omega) hC.lt; clear hA hB hC hL hg4 hz4 hv3) | refine wpList_load_row rfl 59 _ rfl _ rfl _ _ _ _ hA4 Tryd.underlying59 rfl his ?_ | refine wpList_load_row rfl 47 _ rfl _ rfl _ _ _ _ hC4 Tryd.underlying47 rfl hib ?_)
  refine (S1.block_any s hs b hb hl _).mono ?_
  rintro _ w5 ⟨rfl, hb5⟩
  have hB5 := hB4.belowS hb5
  have hL5 := hL4.trans (hb5.mono hL4.size)
  have hlt5 := hB5.lt
  clear hA4 hB4 hC4 hL4 hb5
  rw [HF.out]
  have iF : (Tryd.prog.info? 59).map (·.size) = some (C .u32 F.list).length := S1.i5
  have hF : (C .u32 (Z 5)).length = (C .u32 F.list).length := rfl
  go_wp2_with (refine wpList_store_R rfl 59 _ _ rfl _ (C .u32 F.list) rfl rfl hB5 iF hF (C_allL _ _) ?_; intro w7 hB8 hg8 hz8)
  exact result_row Tryd.results46 rfl hB8 Tryd.underlying59 rfl iF rfl ⟨by rw [HF.out], below_grown hL5 hg8 (by omega) hlt5⟩
theorem tells_any (s : S1.S5) (hs : s.ok) (n : Nat) (hn : n ≤ 20) (w : World) :
    Calls Tryd.prog 47 #[.agg (C .u32 s.list).toArray, .int .i64 (n : Int)] w fun e w' => ∃ v', e = .returned v' ∧ w'.ownsRow w.heap.size 5 1 v' n (C .u8 ((S1.out1 s).take n)) ∧ Below w.heap.size w w' := by
  have hR := (Row.new w 59 (C .u32 s.list)).slAll (by show 5 ≤ maxLen; decide)
  have hL := (Below.more (Below.refl w.heap.size w) (Nat.le_refl _) (.cells (C .u32 s.list).toArray 59)).1
  have hlo := lo_list hs
  have HE := Away.mk (out_tb s n hn)
  go_enter Tryd.func47, Tryd.ntmps47
  go_wp2_with fail
  refine (tell32_any _ s.list hlo n (show n ≤ 4 * 5 by omega) (show 5 ≤ 100 by decide) _ hR).mono ?_
  rintro _ w2 ⟨v2, rfl, ho, hb⟩
  rw [HE.out] at ho
  have ho := own_base ho hL.size
  have hb := hL.trans (hb.mono hL.size)
  go_wp2
  go_ret
  exact ⟨_, rfl, ho, hb⟩
end W1
namespace W2
theorem lo_list {s : S2.S8} (h : s.ok) : Lo 4294967296 s.list := by
  obtain ⟨h1, h2, h3, h4, h5, h6, h7, h8⟩ := h
  intro x hx
  simp only [S2.S8.list, List.mem_cons, List.not_mem_nil, or_false] at hx
  rcases hx with rfl | rfl | rfl | rfl | rfl | rfl | rfl | rfl <;> assumption
theorem out_all (s : S2.S8) : tb 4 s.list 32 = S2.out2 s := by
  simp [tb, List.range, List.range.loop, S2.out2, S1.out4, S2.S8.list]
theorem out_tb (s : S2.S8) (n : Nat) (hn : n ≤ 32) : tb 4 s.list n = (S2.out2 s).take n := by
  rw [← tb_take 4 s.list hn, out_all]
theorem take_any (s : S2.S8) (hs : s.ok) (v : Value) (b : List Nat) (hb : Lo 256 b) (hl : b.length = 64) (w : World) (hv : SlV w v (C .u8 b)) (hT : Tabs w) :
    Calls Tryd.prog 48 #[.agg (C .u32 s.list).toArray, v] w fun e w' => e = .returned (.agg (C .u32 (S2.blk2 s b).list).toArray) ∧ Below w.heap.size w w' := by
  obtain ⟨sa, sc, rfl, h1, h2⟩ := hv.shp hl
  have hA := ((Row.new w 65 (C .u32 s.list)).alloc (.cells (C .u32 (Z 8)).toArray 65)).alloc (.cells (C .u8 (Z 64)).toArray 47)
  have hB := (Row.newAt (w.alloc (.cells (C .u32 s.list).toArray 65)) (w.heap.size + 1) (by simp) 65 (C .u32 (Z 8))).alloc (.cells (C .u8 (Z 64)).toArray 47)
  have hC := Row.newAt ((w.alloc (.cells (C .u32 s.list).toArray 65)).alloc (.cells (C .u32 (Z 8)).toArray 65)) (w.heap.size + 1 + 1) (by simp) 47 (C .u8 (Z 64))
  have hL0 := Below.more (Below.refl w.heap.size w) (Nat.le_refl _) (.cells (C .u32 s.list).toArray 65)
  have hL1 := Below.more hL0.1 hL0.2 (.cells (C .u32 (Z 8)).toArray 65)
  have hL := (Below.more hL1.1 hL1.2 (.cells (C .u8 (Z 64)).toArray 47)).1
  clear hL0 hL1
  have hv3 := hv.below hL
  have hBn : (C .u8 (Z 64)).length = 64 := by rw [C_length, Z_length]
  have hcat : (C .u8 b).take 64 ++ (C .u8 (Z 64)).drop 64 = C .u8 b := by
    rw [List.drop_of_length_le (by rw [hBn]; exact Nat.le_refl _), List.append_nil, List.take_of_length_le (by rw [C_length, hl]; exact Nat.le_refl _)]
  have HQ := Away.mk hcat
  clear hcat
  have hib : (Tryd.prog.info? 47).map (·.size) = some (C .u8 b).toArray.size := by rw [C_size, hl]; exact S2.i64
  have his : (Tryd.prog.info? 65).map (·.size) = some (C .u32 s.list).toArray.size := S2.i8
  obtain ⟨F, hFe⟩ : ∃ F, S2.blk2 s b = F := ⟨_, rfl⟩
  have HF := Away.mk hFe
  clear hFe
  go_enter Tryd.func48, Tryd.ntmps48
  go_wp2_with (first | refine wpList_alloc_row rfl 65 rfl _ S2.z8 ?_ | refine wpList_alloc_row rfl 47 rfl _ S2.z64 ?_ | (refine wpList_copy_R rfl _ _ 22 rfl 5 Tryd.underlying22 S2.i1b (w.heap.size + 1 + 1) 64 64 64 (C .u8 (Z 64)) (C .u8 b) sa sc rfl rfl hC hv3 hBn (C_allL _ _) ?_; intro w4 hC4 hg4 hz4; rw [HQ.out] at hC4; have hA4 := hA.grown hg4 (by simp <;> omega); have hB4 := hB.grown hg4 (by simp <;> omega); have hL4 := below_grown hL hg4 (by omega) hC.lt; clear hA hB hC hL hg4 hz4 hv3) | refine wpList_load_row rfl 65 _ rfl _ rfl _ _ _ _ hA4 Tryd.underlying65 rfl his ?_ | refine wpList_load_row rfl 47 _ rfl _ rfl _ _ _ _ hC4 Tryd.underlying47 rfl hib ?_)
  refine (S2.block_any s hs b hb hl _ (hT.below hL4).a).mono ?_
  rintro _ w5 ⟨rfl, hb5⟩
  have hB5 := hB4.belowS hb5
  have hL5 := hL4.trans (hb5.mono hL4.size)
  have hlt5 := hB5.lt
  clear hA4 hB4 hC4 hL4 hb5
  rw [HF.out]
  have iF : (Tryd.prog.info? 65).map (·.size) = some (C .u32 F.list).length := S2.i8
  have hF : (C .u32 (Z 8)).length = (C .u32 F.list).length := rfl
  go_wp2_with (refine wpList_store_R rfl 65 _ _ rfl _ (C .u32 F.list) rfl rfl hB5 iF hF (C_allL _ _) ?_; intro w7 hB8 hg8 hz8)
  exact result_row Tryd.results48 rfl hB8 Tryd.underlying65 rfl iF rfl ⟨by rw [HF.out], below_grown hL5 hg8 (by omega) hlt5⟩
theorem tells_any (s : S2.S8) (hs : s.ok) (n : Nat) (hn : n ≤ 32) (w : World) :
    Calls Tryd.prog 49 #[.agg (C .u32 s.list).toArray, .int .i64 (n : Int)] w fun e w' => ∃ v', e = .returned v' ∧ w'.ownsRow w.heap.size 5 1 v' n (C .u8 ((S2.out2 s).take n)) ∧ Below w.heap.size w w' := by
  have hR := (Row.new w 65 (C .u32 s.list)).slAll (by show 8 ≤ maxLen; decide)
  have hL := (Below.more (Below.refl w.heap.size w) (Nat.le_refl _) (.cells (C .u32 s.list).toArray 65)).1
  have hlo := lo_list hs
  have HE := Away.mk (out_tb s n hn)
  go_enter Tryd.func49, Tryd.ntmps49
  go_wp2_with fail
  refine (tell32_any _ s.list hlo n (show n ≤ 4 * 8 by omega) (show 8 ≤ 100 by decide) _ hR).mono ?_
  rintro _ w2 ⟨v2, rfl, ho, hb⟩
  rw [HE.out] at ho
  have ho := own_base ho hL.size
  have hb := hL.trans (hb.mono hL.size)
  go_wp2
  go_ret
  exact ⟨_, rfl, ho, hb⟩
end W2
namespace W3
theorem lo_list {s : S3.S8} (h : s.ok) : Lo 18446744073709551616 s.list := by
  obtain ⟨h1, h2, h3, h4, h5, h6, h7, h8⟩ := h
  intro x hx
  simp only [S3.S8.list, List.mem_cons, List.not_mem_nil, or_false] at hx
  rcases hx with rfl | rfl | rfl | rfl | rfl | rfl | rfl | rfl <;> assumption
theorem out_all (s : S3.S8) : tb 8 s.list 64 = S3.out3 s := by
  rfl
theorem out_tb (s : S3.S8) (n : Nat) (hn : n ≤ 64) : tb 8 s.list n = (S3.out3 s).take n := by
  rw [← tb_take 8 s.list hn, out_all]
theorem take_any (s : S3.S8) (hs : s.ok) (v : Value) (b : List Nat) (hb : Lo 256 b) (hl : b.length = 128) (w : World) (hv : SlV w v (C .u8 b)) (hT : Tabs w) :
    Calls Tryd.prog 50 #[.agg (C .u64 s.list).toArray, v] w fun e w' => e = .returned (.agg (C .u64 (S3.blk3 s b).list).toArray) ∧ Below w.heap.size w w' := by
  obtain ⟨sa, sc, rfl, h1, h2⟩ := hv.shp hl
  have hA := ((Row.new w 69 (C .u64 s.list)).alloc (.cells (C .u64 (Z 8)).toArray 69)).alloc (.cells (C .u8 (Z 128)).toArray 92)
  have hB := (Row.newAt (w.alloc (.cells (C .u64 s.list).toArray 69)) (w.heap.size + 1) (by simp) 69 (C .u64 (Z 8))).alloc (.cells (C .u8 (Z 128)).toArray 92)
  have hC := Row.newAt ((w.alloc (.cells (C .u64 s.list).toArray 69)).alloc (.cells (C .u64 (Z 8)).toArray 69)) (w.heap.size + 1 + 1) (by simp) 92 (C .u8 (Z 128))
  have hL0 := Below.more (Below.refl w.heap.size w) (Nat.le_refl _) (.cells (C .u64 s.list).toArray 69)
  have hL1 := Below.more hL0.1 hL0.2 (.cells (C .u64 (Z 8)).toArray 69)
  have hL := (Below.more hL1.1 hL1.2 (.cells (C .u8 (Z 128)).toArray 92)).1
  clear hL0 hL1
  have hv3 := hv.below hL
  have hBn : (C .u8 (Z 128)).length = 128 := by rw [C_length, Z_length]
  have hcat : (C .u8 b).take 128 ++ (C .u8 (Z 128)).drop 128 = C .u8 b := by
    rw [List.drop_of_length_le (by rw [hBn]; exact Nat.le_refl _), List.append_nil, List.take_of_length_le (by rw [C_length, hl]; exact Nat.le_refl _)]
  have HQ := Away.mk hcat
  clear hcat
  have hib : (Tryd.prog.info? 92).map (·.size) = some (C .u8 b).toArray.size := by rw [C_size, hl]; exact S3.i128
  have his : (Tryd.prog.info? 69).map (·.size) = some (C .u64 s.list).toArray.size := S3.i8
  obtain ⟨F, hFe⟩ : ∃ F, S3.blk3 s b = F := ⟨_, rfl⟩
  have HF := Away.mk hFe
  clear hFe
  go_enter Tryd.func50, Tryd.ntmps50
  go_wp2_with (first | refine wpList_alloc_row rfl 69 rfl _ S3.z8 ?_ | refine wpList_alloc_row rfl 92 rfl _ S3.z128 ?_ | (refine wpList_copy_R rfl _ _ 22 rfl 5 Tryd.underlying22 S2.i1b (w.heap.size + 1 + 1) 128 128 128 (C .u8 (Z 128)) (C .u8 b) sa sc rfl rfl hC hv3 hBn (C_allL _ _) ?_; intro w4 hC4 hg4 hz4; rw [HQ.out] at hC4; have hA4 := hA.grown hg4 (by simp <;> omega); have hB4 := hB.grown hg4 (by simp <;> omega); have hL4 := below_grown hL hg4 (by omega) hC.lt; clear hA hB hC hL hg4 hz4 hv3) | refine wpList_load_row rfl 69 _ rfl _ rfl _ _ _ _ hA4 Tryd.underlying69 rfl his ?_ | refine wpList_load_row rfl 92 _ rfl _ rfl _ _ _ _ hC4 Tryd.underlying92 rfl hib ?_)
  refine (S3.block_any s hs b hb hl _ (hT.below hL4).b).mono ?_
  rintro _ w5 ⟨rfl, hb5⟩
  have hB5 := hB4.belowS hb5
  have hL5 := hL4.trans (hb5.mono hL4.size)
  have hlt5 := hB5.lt
  clear hA4 hB4 hC4 hL4 hb5
  rw [HF.out]
  have iF : (Tryd.prog.info? 69).map (·.size) = some (C .u64 F.list).length := S3.i8
  have hF : (C .u64 (Z 8)).length = (C .u64 F.list).length := rfl
  go_wp2_with (refine wpList_store_R rfl 69 _ _ rfl _ (C .u64 F.list) rfl rfl hB5 iF hF (C_allL _ _) ?_; intro w7 hB8 hg8 hz8)
  exact result_row Tryd.results50 rfl hB8 Tryd.underlying69 rfl iF rfl ⟨by rw [HF.out], below_grown hL5 hg8 (by omega) hlt5⟩
theorem tells_any (s : S3.S8) (hs : s.ok) (n : Nat) (hn : n ≤ 64) (w : World) :
    Calls Tryd.prog 51 #[.agg (C .u64 s.list).toArray, .int .i64 (n : Int)] w fun e w' => ∃ v', e = .returned v' ∧ w'.ownsRow w.heap.size 5 1 v' n (C .u8 ((S3.out3 s).take n)) ∧ Below w.heap.size w w' := by
  have hR := (Row.new w 69 (C .u64 s.list)).slAll (by show 8 ≤ maxLen; decide)
  have hL := (Below.more (Below.refl w.heap.size w) (Nat.le_refl _) (.cells (C .u64 s.list).toArray 69)).1
  have hlo := lo_list hs
  have HE := Away.mk (out_tb s n hn)
  go_enter Tryd.func51, Tryd.ntmps51
  go_wp2_with fail
  refine (tell64_any _ s.list hlo n (show n ≤ 8 * 8 by omega) (show 8 ≤ 100 by decide) _ hR).mono ?_
  rintro _ w2 ⟨v2, rfl, ho, hb⟩
  rw [HE.out] at ho
  have ho := own_base ho hL.size
  have hb := hL.trans (hb.mono hL.size)
  go_wp2
  go_ret
  exact ⟨_, rfl, ho, hb⟩
end W3
end Go.Proofs.YtmbaenodibfedaaDoor.S9
