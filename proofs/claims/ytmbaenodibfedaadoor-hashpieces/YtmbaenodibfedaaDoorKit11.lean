/-
  More of my own small kit, over whatever program: an array at the head of a greater block (a struct's first field), loaded and stored; append that tells the block; memory that stays but for one block and one row; rows cut to nothing. Conditions: elements of one cell.
-/
import Derived.Test.YtmbaenodibfedaaDoorKit6
import Derived.Test.YtmbaenodibfedaaDoorKit7
namespace Go.Proofs.YtmbaenodibfedaaDoor
open Go.RowKit
set_option linter.unusedVariables false

/-- The array at the head of a block. -/
theorem run_load_head {P : Program} (w : World) {g n : Nat} {t ty e : TypeId} {us vs : List Value} (hg : Row w g t (us ++ vs)) (hu : P.underlying ty = some (.array n e)) (hi : (P.info? ty).map (·.size) = some us.length) :
    (loadVar ty ⟨g, 0, none⟩).run P w = .ok (.agg us.toArray) w := by
  have hl : (loadCells ⟨g, 0, none⟩ us.length).run P w = .ok us.toArray w :=
    run_loadCells_list (P := P) w ⟨g, 0, none⟩ us (fun j v hv => by
      have hadd : (⟨g, 0, none⟩ : Addr).add j = ⟨g, j, none⟩ := by unfold Addr.add; split <;> simp_all
      rw [hadd, hg.cell, List.getElem?_append_left (List.getElem?_eq_some_iff.1 hv).1]
      exact hv)
  cases hq : P.info? ty with
  | none => simp [hq] at hi
  | some i =>
    have hs : i.size = us.length := by simpa [hq] using hi
    have hagg : (isAgg ty).run P w = .ok true w := by
      unfold isAgg
      rw [Sem.run_bind, run_underlying hu w]
      simp
    simp [loadVar, Sem.run_bind, hagg, sizeOf, typeInfo, hq, hs, hl]
theorem exec_load_head {P : Program} {w : World} {o : Oper} {ev : Operand → Value} (ty : TypeId) (x : Operand) (ho : o.op = .load ty x) {g : Nat} (hx : ev x = .pointer (some ⟨g, 0, none⟩)) {t e : TypeId} {n : Nat} {us vs : List Value} (hg : Row w g t (us ++ vs))
    (hu : P.underlying ty = some (.array n e)) (hi : (P.info? ty).map (·.size) = some us.length) : (execOp ev o).run P w = .ok (.value (.agg us.toArray)) w := by
  unfold execOp
  simp only [ho, hx, Instr.loadAt, Instr.sureAddr, Sem.run_bind, Sem.run_pure, Result.andThen_ok, run_load_head w hg hu hi]
theorem run_store_head {P : Program} (w : World) {g : Nat} {t ty : TypeId} {old us vs : List Value} (hg : Row w g t (old ++ vs)) (hi : (P.info? ty).map (·.size) = some us.length) (ho : old.length = us.length) (h1 : us.all (·.oneCell') = true) :
    (storeVar ty ⟨g, 0, none⟩ (.agg us.toArray)).run P w = .ok () (w.setRow g (us ++ vs).toArray) := by
  have := run_storeCells_at P g 0 t us 0 (old ++ vs).toArray w hg (by simp; omega) (fun v hv => List.all_eq_true.1 h1 v hv)
  simp only [Nat.add_zero, Nat.zero_add, List.take_zero, List.nil_append] at this
  rw [show (old ++ vs).drop us.length = vs by rw [List.drop_append_of_le_length (by omega), List.drop_of_length_le (by omega), List.nil_append]] at this
  cases hq : P.info? ty with
  | none => simp [hq] at hi
  | some i =>
    have hs : us.length = i.size := by simp [hq] at hi; omega
    simp [storeVar, sizeOf, typeInfo, hq, Value.cells, hs, this]
theorem wp_store_head {P : Program} {w : World} {o : Oper} {a : Act} {K : Act → World → Prop} {Q : Exit → Act → World → Prop} (ty : TypeId) (x y : Operand) (ho : o.op = .store ty x y)
    (g : Nat) (us : List Value) (hx : a.eval x = .pointer (some ⟨g, 0, none⟩)) (hy : a.eval y = .agg us.toArray) {t : TypeId} {old vs : List Value} (hg : Row w g t (old ++ vs)) (hi : (P.info? ty).map (·.size) = some us.length)
    (hold : old.length = us.length) (h1 : us.all (·.oneCell') = true)
    (h : ∀ w', Row w' g t (us ++ vs) → w.grownBy w' (some g) → w'.heap.size = w.heap.size → K (a.put o.dst undef) w') : o.wp P a w K Q := by
  unfold Oper.wp execOp
  simp only [ho, hx, hy, Instr.storeAt, Instr.sureAddr, Sem.run_bind, Sem.run_pure, Result.andThen_ok, run_store_head w hg hi hold h1]
  exact h _ (hg.setRow _) ⟨rfl, rfl, rfl, by simp, fun k _ hk => setRow_other w g k _ (fun e => hk (by rw [e]))⟩ (by simp)

/-- Where an appended slice lies: in the old row, or in new memory. -/
theorem append_where {P : Program} {w w' : World} {base : Nat} {t ty e : TypeId} {z : Value} {i : TypeInfo} (ht : P.underlying t = some (.slice e)) (hi : P.info? e = some i) (hz : i.zero = some z) (hsize : i.size = 1)
    {v : Value} {n : Nat} {xs : List Value} (hown : w.ownsRow base e 1 v n xs) {ad : Addr} {m c : Nat} {ys : List Value} {v' : Value} (hl : ys.length = m) (hnews : ∀ j y, ys[j]? = some y → w.cell? (ad.add j) = some y) (h1 : ∀ u ∈ ys, u.oneCell' = true)
    (h63 : n + m ≤ maxLen) (hbytes : (n + m) * i.bytes ≤ 140737488355328) (hrun : (Builtin.append_ #[t, t] ty #[v, .slice (some ad) m c]).run P w = .ok v' w') :
    v'.ownBlock = v.ownBlock ∨ v'.ownBlock = some w.heap.size := by
  have hsm : n + m ≤ 9223372036854775807 := by simp only [maxLen] at h63; omega
  rcases hown.2 with ⟨rfl, rfl⟩ | ⟨g, cap, cur, rfl, hbg, hg, hnc, hcm, hcs, htake⟩
  · by_cases hm : m = 0
    · subst hm
      have hr : (Builtin.append_ #[t, t] ty #[.slice none 0 0, .slice (some ad) 0 c]).run P w = .ok (.slice none 0 0) w := by
        simp [Builtin.append_, run_underlying ht, sizeOf, typeInfo, hi, Builtin.lenOf, Builtin.firstCells, loadCells, loadCellsFrom]
      rw [hr] at hrun
      injection hrun with e1 _
      subst e1
      exact .inl rfl
    · have hr := run_append_nil (P := P) w t ty e i z ht hi hz ad m c ys (by rw [hsize, Nat.mul_one]; exact hl) hnews (by omega) (by omega) (by have hb := hbytes; simp only [Nat.zero_add] at hb; omega)
      rw [hr] at hrun
      injection hrun with e1 _
      subst e1
      exact .inr rfl
  · by_cases hroom : n + m ≤ cap
    · have hr := run_append_room (P := P) w t ty e i ht hi g n cap cur hg ad m c ys (by rw [hsize, Nat.mul_one]; exact hl) hnews h1 hroom (by rw [hsize, hcs]; omega)
      rw [hr] at hrun
      injection hrun with e1 _
      subst e1
      exact .inl rfl
    · have holds := hown.cells (g := g) rfl
      have hr := run_append_grow (P := P) w t ty e i z ht hi hz ⟨g, 0, none⟩ n cap xs (by rw [hsize]; exact hown.1) holds ad m c ys (by rw [hsize, Nat.mul_one]; exact hl) hnews (by omega) (by omega) (growslice_fits (by omega) hbytes)
      rw [hr] at hrun
      injection hrun with e1 _
      subst e1
      exact .inr rfl
/-- append(s, x...), s one's own, x whatever is read; where it lies. -/
theorem wp_append_at {P : Program} {w : World} {o : Oper} {a : Act} {K : Act → World → Prop} {Q : Exit → Act → World → Prop} (s x : Operand) (t : TypeId)
    (ho : o.op = .call { callee := .builtin .append, args := #[s, x], argTypes := #[t, t] })
    (base : Nat) (e : TypeId) (z : Value) (bytes : Nat) (ht : P.underlying t = some (.slice e)) (hinfo : (P.info? e).map (fun i => (i.zero, i.size, i.bytes)) = some (some z, 1, bytes)) (hzs : z.cells.size = 1)
    (v : Value) (n : Nat) (xs : List Value) (hs : a.eval s = v) (hown : w.ownsRow base e 1 v n xs) (sv : Value) (ys : List Value) (hx : a.eval x = sv) (hsl : SlV w sv ys) (h1 : ∀ u ∈ ys, u.oneCell' = true)
    (h63 : n + ys.length ≤ maxLen) (hbytes : (n + ys.length) * bytes ≤ 140737488355328) (hbase : base ≤ w.heap.size)
    (h : ∀ v' w', w'.ownsRow base e 1 v' (n + ys.length) (xs ++ ys) → w.grownBy w' v.ownBlock → (v'.ownBlock = v.ownBlock ∨ v'.ownBlock = some w.heap.size) → K (a.put o.dst v') w') : o.wp P a w K Q := by
  obtain ⟨i0, hi, hz0, hz1, hz2⟩ := info_parts hinfo
  obtain ⟨a', c', rfl, hle, hcm, hnone, hc⟩ := hsl
  by_cases h0 : a' = none
  · subst h0
    obtain rfl := hnone rfl
    obtain rfl : ys = [] := List.eq_nil_of_length_eq_zero (by omega)
    have hrun := run_append_owned_none (P := P) (w := w) base t o.type e i0 1 ht hi v n xs hown
    have hx' : a.eval x = .slice none 0 0 := by simpa using hx
    unfold Oper.wp
    simp [execOp, ho, resolve, invoke, builtin, hs, hx', hrun, Result.andThen]
    exact h v w (by simpa using hown) (grown_refl _ _) (.inl rfl)
  · obtain ⟨ad, rfl⟩ := Option.ne_none_iff_exists'.1 h0
    have hnews : ∀ j u, ys[j]? = some u → w.cell? (ad.add j) = some u := by
      intro j u hu
      have hp : 0 < ys.length := by
        have := (List.getElem?_eq_some_iff.1 hu).1
        omega
      obtain ⟨b, off, he, hcell⟩ := hc hp
      simp only [Option.some.injEq] at he
      subst he
      rw [Addr.add_lit]; exact hcell j u hu
    obtain ⟨v', w', hrun, ho', hg', _⟩ := run_append_own (P := P) (w := w) base t o.type e i0 z 1 bytes ht hi hz0 hz1 hz2 hzs (by decide) v n xs hown ad ys.length c' ys (by omega) hnews h1 h63 hbytes hbase
    have hw := append_where ht hi hz0 hz1 hown rfl hnews h1 h63 (by rw [hz2]; exact hbytes) hrun
    unfold Oper.wp
    simp [execOp, ho, resolve, invoke, builtin, hs, hx, hrun, Result.andThen]
    exact h v' w' ho' hg' hw
theorem wpList_append_at {P : Program} {w : World} {ops : Array Oper} {rest : List Oper} {o : Oper} {a : Act} {Q : Exit → Act → World → Prop} (hgd : o.guard = none) (s x : Operand) (t : TypeId)
    (ho : o.op = .call { callee := .builtin .append, args := #[s, x], argTypes := #[t, t] })
    (base : Nat) (e : TypeId) (z : Value) (bytes : Nat) (ht : P.underlying t = some (.slice e)) (hinfo : (P.info? e).map (fun i => (i.zero, i.size, i.bytes)) = some (some z, 1, bytes)) (hzs : z.cells.size = 1)
    (v : Value) (n : Nat) (xs : List Value) (hs : a.eval s = v) (hown : w.ownsRow base e 1 v n xs) (sv : Value) (ys : List Value) (hx : a.eval x = sv) (hsl : SlV w sv ys) (h1 : ∀ u ∈ ys, u.oneCell' = true)
    (h63 : n + ys.length ≤ maxLen) (hbytes : (n + ys.length) * bytes ≤ 140737488355328) (hbase : base ≤ w.heap.size)
    (h : ∀ v' w', w'.ownsRow base e 1 v' (n + ys.length) (xs ++ ys) → w.grownBy w' v.ownBlock → (v'.ownBlock = v.ownBlock ∨ v'.ownBlock = some w.heap.size) → wpList P ops Q rest (a.put o.dst v') w') : wpList P ops Q (o :: rest) a w :=
  wpList_plain hgd fun _ hK => wp_append_at s x t ho base e z bytes ht hinfo hzs v n xs hs hown sv ys hx hsl h1 h63 hbytes hbase fun v' w' h2 h3 h4 => hK _ _ (h v' w' h2 h3 h4)

/-- Everything that was there stays, but for block q and row r. -/
structure Kp (q : Nat) (r : Option Nat) (w w' : World) : Prop where
  os : w'.os = w.os
  tape : w'.tape = w.tape
  output : w'.output = w.output
  size : w.heap.size ≤ w'.heap.size
  block : ∀ k, k < w.heap.size → k ≠ q → some k ≠ r → w'.heap[k]? = w.heap[k]?
theorem Kp.refl (q : Nat) (r : Option Nat) (w : World) : Kp q r w w := ⟨rfl, rfl, rfl, Nat.le_refl _, fun _ _ _ _ => rfl⟩
theorem Kp.more {q : Nat} {r : Option Nat} {a b c : World} (h : Kp q r a b) (hb : Below b.heap.size b c) : Kp q r a c :=
  ⟨hb.os.trans h.os, hb.tape.trans h.tape, hb.output.trans h.output, Nat.le_trans h.size hb.size, fun k hk h1 h2 => (hb.block k (Nat.lt_of_lt_of_le hk h.size)).trans (h.block k hk h1 h2)⟩
/-- Something more was written: in q, in r, or in what is newer. -/
theorem Kp.grown {q : Nat} {r row : Option Nat} {a b c : World} (h : Kp q r a b) (hg : b.grownBy c row) (hr : ∀ k, row = some k → k = q ∨ some k = r ∨ a.heap.size ≤ k) : Kp q r a c :=
  ⟨hg.os.trans h.os, hg.tape.trans h.tape, hg.output.trans h.output, Nat.le_trans h.size hg.size, fun k hk h1 h2 => (hg.block k (Nat.lt_of_lt_of_le hk h.size) (fun e => by
    rcases hr k e.symm with h3 | h3 | h3
    · exact h1 h3
    · exact h2 h3
    · omega)).trans (h.block k hk h1 h2)⟩
theorem Kp.below {q B : Nat} {r : Option Nat} {w0 a b : World} (h0 : Below B w0 a) (h : Kp q r a b) (hB : B ≤ a.heap.size) (hq : B ≤ q) (hr : ∀ k, r = some k → B ≤ k) : Below B w0 b :=
  ⟨h.os.trans h0.os, h.tape.trans h0.tape, h.output.trans h0.output, Nat.le_trans h0.size h.size, fun k hk => (h.block k (by omega) (by omega) (fun e => by have := hr k e.symm; omega)).trans (h0.block k hk)⟩
theorem Kp.row {q g : Nat} {r : Option Nat} {a b : World} {e : TypeId} {us : List Value} (h : Kp q r a b) (hR : Row a g e us) (h1 : g ≠ q) (h2 : some g ≠ r) : Row b g e us := hR.keep (h.block g hR.lt h1 h2)
theorem Kp.sl {q : Nat} {r : Option Nat} {a b : World} {v : Value} {xs : List Value} (h : Kp q r a b) (hs : SlV a v xs) (h1 : v.ownBlock ≠ some q) (h2 : v.ownBlock = none ∨ v.ownBlock ≠ r) : SlV b v xs :=
  hs.keep fun k e hk => h.block k hk (fun e2 => h1 (by rw [e, e2])) (fun e2 => by
    rcases h2 with h2 | h2
    · rw [h2] at e; cases e
    · exact h2 (e.trans e2))
theorem Kp.own {q base n : Nat} {r : Option Nat} {a b : World} {e : TypeId} {v : Value} {xs : List Value} (h : Kp q r a b) (ho : a.ownsRow base e 1 v n xs) (h1 : v.ownBlock ≠ some q) (h2 : v.ownBlock = none ∨ v.ownBlock ≠ r) : b.ownsRow base e 1 v n xs := by
  refine ⟨ho.1, ?_⟩
  rcases ho.2 with hn | ⟨g, cap, cur, rfl, hb, hgg, rest⟩
  · exact .inl hn
  · refine .inr ⟨g, cap, cur, rfl, hb, ?_, rest⟩
    rw [h.block g (Array.getElem?_eq_some_iff.1 hgg).1 (fun e => h1 (by simp [Value.ownBlock, e])) (fun e => by
      rcases h2 with h2 | h2
      · simp [Value.ownBlock] at h2
      · exact h2 (by simpa [Value.ownBlock] using e))]
    exact hgg
/-- A row of another type is another block. -/
theorem own_ne {w : World} {base n q : Nat} {e T : TypeId} {v : Value} {xs us : List Value} (ho : w.ownsRow base e 1 v n xs) (hR : Row w q T us) (hT : e ≠ T) : v.ownBlock ≠ some q := by
  intro hq
  rcases ho.2 with ⟨rfl, _⟩ | ⟨g, cap, cur, rfl, _, hg, _⟩
  · simp [Value.ownBlock] at hq
  · simp only [Value.ownBlock, Option.some.injEq] at hq
    subst hq
    have := hg.symm.trans hR
    simp only [Option.some.injEq, Obj.cells.injEq] at this
    exact hT this.2.1
/-- s[:0]. -/
theorem own_cut0 {w : World} {base n : Nat} {e : TypeId} {a : Option Addr} {m cap : Nat} {xs : List Value} (ho : w.ownsRow base e 1 (.slice a m cap) n xs) : w.ownsRow base e 1 (.slice a 0 cap) 0 [] := by
  refine ⟨rfl, ?_⟩
  rcases ho.2 with ⟨h, _⟩ | ⟨g, c, cur, h, hb, hg, h1, h2, h3, h4⟩
  · simp only [Value.slice.injEq] at h
    obtain ⟨rfl, -, rfl⟩ := h
    exact .inl ⟨rfl, rfl⟩
  · simp only [Value.slice.injEq] at h
    obtain ⟨rfl, -, rfl⟩ := h
    exact .inr ⟨g, cap, cur, rfl, hb, hg, Nat.zero_le _, h2, h3, by simp⟩
end Go.Proofs.YtmbaenodibfedaaDoor
