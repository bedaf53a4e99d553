/-
  More of my own small kit, over whatever program: arrays of numbers in blocks of the call's own: made, loaded, stored as a whole, read at an index. Conditions: elements of one cell.
-/
import Derived.Test.YtcllmkfaifalgaaDoorKit4
import Derived.Laws.Rows
namespace Go.Proofs.YtcllmkfaifalgaaDoor
open Go.RowKit
set_option linter.unusedVariables false

section
variable {P : Program}
/-- An array's variable made, its noughts by name. -/
theorem wpList_alloc_row {w : World} {ops : Array Oper} {rest : List Oper} {o : Oper} {a : Act} {Q : Exit → Act → World → Prop} (hgd : o.guard = none) (ty : TypeId) (ho : o.op = .alloc ty) (us : List Value)
    (hz : ∀ w : World, (zeroValue ty).run P w = .ok (.agg us.toArray) w)
    (h : wpList P ops Q rest (a.put o.dst (.pointer (some ⟨w.heap.size, 0, none⟩))) (w.alloc (.cells us.toArray ty))) : wpList P ops Q (o :: rest) a w := by
  refine wpList_plain hgd fun K hK => ?_
  have h1 := hK _ _ h
  unfold Oper.wp execOp
  simp [ho, hz, go_sem]
  exact h1
/-- x[i] of an array that is a value. -/
theorem run_index_C (w : World) {T e : TypeId} {n : Nat} {q : IntKind} (hu : P.underlying T = some (.array n e)) (hp : P.plainKey e = true) (hs : (P.info? e).map (·.size) = some 1) (xs : List Nat) (i : Nat) (hi : i < n) (hx : xs.length = n) :
    (Instr.index T (.agg (C q xs).toArray) (.int .i64 (i : Int))).run P w = .ok (.int q (xs.getD i 0 : Nat)) w := by
  have p := run_part_plain (P := P) w hp (xs := (C q xs).toArray) (off := i * 1) (v := .int q (xs.getD i 0 : Nat)) (by simpa using C_get q (xs := xs) (i := i) (by omega))
  cases hq : P.info? e with
  | none => simp [hq] at hs
  | some t =>
    have hsz : (sizeOf e).run P w = .ok 1 w := by simp [sizeOf, typeInfo, hq]; simpa [hq] using hs
    simp only [Instr.index, Sem.run_bind, asIntOf, Sem.run_pure, Result.andThen_ok, run_underlying hu w]
    rw [if_pos (by omega)]
    simp only [Sem.run_bind, hsz, Result.andThen_ok, Int.toNat_natCast]
    exact p
end
section
variable {w w' : World} {g : Nat} {e : TypeId} {us vs : List Value}
theorem Row.setRow (h : Row w g e us) (cs : List Value) : Row (w.setRow g cs.toArray) g e cs := setRow_heap w g _ _ _ _ h
theorem Row.setOther (h : Row w g e us) {k : Nat} (cs : Array Value) (hne : g ≠ k) : Row (w.setRow k cs) g e us := h.keep (setRow_other w k g cs hne)
theorem Row.drew (h : Row w g e us) : Row w.drew g e us := h
end
/-- A whole array stored into a block of just that size: the world behind it by what is known of it. -/
theorem wpList_store_R {P : Program} {w : World} {ops : Array Oper} {rest : List Oper} {o : Oper} {a : Act} {Q : Exit → Act → World → Prop} (hgd : o.guard = none) (ty : TypeId) (x y : Operand) (ho : o.op = .store ty x y)
    (g : Nat) (us : List Value) (hx : a.eval x = .pointer (some ⟨g, 0, none⟩)) (hy : a.eval y = .agg us.toArray) {e : TypeId} {old : List Value} (hg : Row w g e old) (hi : (P.info? ty).map (·.size) = some us.length)
    (hold : old.length = us.length) (h1 : us.all (·.oneCell') = true)
    (h : ∀ w', Row w' g e us → w.grownBy w' (some g) → w'.heap.size = w.heap.size → wpList P ops Q rest (a.put o.dst undef) w') : wpList P ops Q (o :: rest) a w := by
  refine wpList_store_row hgd ty x y ho g us.toArray hx hy e old.toArray hg (by simpa using hi) (by simpa using hold) ?_ ?_
  · rw [Array.all_eq_true_iff_forall_mem]
    intro u hu
    exact List.all_eq_true.1 h1 u (by simpa using hu)
  · exact h _ (hg.setRow us) ⟨rfl, rfl, rfl, by simp, fun k _ hk => setRow_other w g k _ (fun e => hk (by rw [e]))⟩ (by simp)
/-- A whole array loaded, stored: in a region that draws its order. -/
theorem exec_load_R {P : Program} {w : World} {o : Oper} {ev : Operand → Value} (ty : TypeId) (x : Operand) (ho : o.op = .load ty x) {g : Nat} (hx : ev x = .pointer (some ⟨g, 0, none⟩)) {e : TypeId} {us : List Value} (hg : Row w g e us) {n : Nat} {t : TypeId}
    (hu : P.underlying ty = some (.array n t)) (hi : (P.info? ty).map (·.size) = some us.length) : (execOp ev o).run P w = .ok (.value (.agg us.toArray)) w := by
  have h := run_loadVar_row (P := P) w g e ty us.toArray (0, 0) _ hg hu rfl (by simpa using hi)
  unfold execOp
  simp only [ho, hx, Instr.loadAt, Instr.sureAddr, Sem.run_bind, Sem.run_pure, Result.andThen_ok, h]
theorem wp_store_R {P : Program} {w : World} {o : Oper} {a : Act} {K : Act → World → Prop} {Q : Exit → Act → World → Prop} (ty : TypeId) (x y : Operand) (ho : o.op = .store ty x y)
    (g : Nat) (us : List Value) (hx : a.eval x = .pointer (some ⟨g, 0, none⟩)) (hy : a.eval y = .agg us.toArray) {e : TypeId} {old : List Value} (hg : Row w g e old) (hi : (P.info? ty).map (·.size) = some us.length)
    (hold : old.length = us.length) (h1 : us.all (·.oneCell') = true)
    (h : ∀ w', Row w' g e us → w.grownBy w' (some g) → w'.heap.size = w.heap.size → K (a.put o.dst undef) w') : o.wp P a w K Q := by
  refine wp_store_row ty x y ho g us.toArray hx hy e old.toArray hg (by simpa using hi) (by simpa using hold) ?_ ?_
  · rw [Array.all_eq_true_iff_forall_mem]
    intro u hu
    exact List.all_eq_true.1 h1 u (by simpa using hu)
  · exact h _ (hg.setRow us) ⟨rfl, rfl, rfl, by simp, fun k _ hk => setRow_other w g k _ (fun e => hk (by rw [e]))⟩ (by simp)
/-- copy(x[:], s) into the whole of an array's block. -/
theorem wpList_copy_R {P : Program} {w : World} {ops : Array Oper} {rest : List Oper} {o : Oper} {a : Act} {Q : Exit → Act → World → Prop} (hgd : o.guard = none) (d s : Operand) (t : TypeId)
    (ho : o.op = .call { callee := .builtin .copy, args := #[d, s], argTypes := #[t, t] }) (e : TypeId) (hu : P.underlying t = some (.slice e)) (hsz : (P.info? e).map (·.size) = some 1)
    (g n cap m : Nat) (us ys : List Value) {eb : TypeId} (sa : Option Addr) (sc : Nat) (hd : a.eval d = .slice (some ⟨g, 0, none⟩) n cap) (hs : a.eval s = .slice sa m sc)
    (hg : Row w g eb us) (hsl : SlV w (.slice sa m sc) ys) (hn : us.length = n) (h1 : ys.all (·.oneCell') = true)
    (h : ∀ w', Row w' g eb (ys.take n ++ us.drop m) → w.grownBy w' (some g) → w'.heap.size = w.heap.size → wpList P ops Q rest (a.put o.dst (goInt ((min m n : Nat) : Int))) w') :
    wpList P ops Q (o :: rest) a w := by
  subst hn
  obtain ⟨a', c', he, _, _, _, hc⟩ := hsl
  simp only [Value.slice.injEq] at he
  obtain ⟨rfl, rfl, rfl⟩ := he
  by_cases h0 : min ys.length us.length = 0
  · refine wpList_copy_nothing hgd d s t t ho e hu hsz _ _ _ _ _ _ hd hs h0 ?_
    have := h w ?_ (grown_refl _ _) rfl
    · rw [h0] at this; exact this
    · have h2 : ys.take us.length ++ us.drop ys.length = us := by
        rcases (by omega : ys.length = 0 ∨ us.length = 0) with h3 | h3
        · rw [List.eq_nil_of_length_eq_zero h3]; simp
        · rw [List.eq_nil_of_length_eq_zero h3]; simp
      rw [h2]; exact hg
  · obtain ⟨b, off, rfl, hcell⟩ := hc (by omega)
    refine wpList_copy_own hgd d s t t ho e hu hsz g 0 us.length cap ⟨b, off, none⟩ ys.length sc hd hs us.toArray eb hg (ys.take us.length) (by rw [List.length_take]; exact Nat.min_comm _ _) (fun j v hv => ?_) (by simp [List.length_take]; omega) (fun v hv => List.all_eq_true.1 h1 v (List.mem_of_mem_take hv)) ?_
    · rw [Addr.add_lit]
      rw [List.getElem?_take] at hv
      split at hv
      · exact hcell j v hv
      · cases hv
    · have e1 : (ys.take us.length).length = min ys.length us.length := by rw [List.length_take]; exact Nat.min_comm _ _
      have e2 : us.drop (min ys.length us.length) = us.drop ys.length := by
        by_cases h3 : ys.length ≤ us.length
        · rw [Nat.min_eq_left h3]
        · rw [Nat.min_eq_right (by omega), List.drop_of_length_le (Nat.le_refl _), List.drop_of_length_le (by omega)]
      simp only [List.take_zero, List.nil_append, Nat.zero_add, e1, e2]
      exact h _ (hg.setRow _) ⟨rfl, rfl, rfl, by simp, fun k _ hk => setRow_other w g k _ (fun e => hk (by rw [e]))⟩ (by simp)
/-- An array of noughts built. -/
theorem wpList_build_Z {P : Program} {w : World} {ops : Array Oper} {rest : List Oper} {o : Oper} {a : Act} {Q : Exit → Act → World → Prop} (hg : o.guard = none) (t : TypeId) (ho : o.op = .build t #[]) (us : List Value) (hz : P.built t [] = some us.toArray)
    (h : wpList P ops Q rest (a.put o.dst (.agg us.toArray)) w) : wpList P ops Q (o :: rest) a w := by
  refine wpList_build hg t #[] ho (by simp [hz]) ?_
  simpa [hz] using h
/-- What was in the row that is appended to is there still. -/
theorem append_keeps {P : Program} {w w' : World} {base : Nat} {t ty e : TypeId} {z : Value} {bytes : Nat} {i : TypeInfo} (ht : P.underlying t = some (.slice e)) (hi : P.info? e = some i) (hz : i.zero = some z) (hsize : i.size = 1) (hby : i.bytes = bytes)
    {g n cap : Nat} {xs : List Value} (hown : w.ownsRow base e 1 (.slice (some ⟨g, 0, none⟩) n cap) n xs) {ad : Addr} {c : Nat} {u v' : Value} (hnews : ∀ j y, [u][j]? = some y → w.cell? (ad.add j) = some y) (h1 : u.oneCell' = true)
    (h63 : n + 1 ≤ maxLen) (hbytes : (n + 1) * bytes ≤ 140737488355328) (hrun : (Builtin.append_ #[t, t] ty #[.slice (some ⟨g, 0, none⟩) n cap, .slice (some ad) 1 c]).run P w = .ok v' w') :
    ∀ j y, xs[j]? = some y → w'.cell? ⟨g, j, none⟩ = some y := by
  intro j y hy
  have holds := hown.cells (g := g) rfl
  by_cases hroom : n + 1 ≤ cap
  · obtain ⟨w'', hr, ho, _⟩ := run_append_fits (P := P) w base t ty e i 1 ht hi hsize g n cap xs hown ad 1 c [u] (by simp) hnews (fun y hy => by simp at hy; subst hy; exact h1) hroom
    rw [hr] at hrun
    injection hrun with _ hw
    subst hw
    have := ho.cells (g := g) rfl j y (by rw [List.getElem?_append_left (List.getElem?_eq_some_iff.1 hy).1]; exact hy)
    rwa [Addr.add_lit, Nat.zero_add] at this
  · subst hby
    have hr := run_append_grow (P := P) w t ty e i z ht hi hz ⟨g, 0, none⟩ n cap xs (by rw [hsize]; exact hown.1) holds ad 1 c [u] (by rw [hsize]; rfl) hnews (by omega) (by unfold maxLen at h63; omega) (growslice_fits (by omega) hbytes)
    rw [hr] at hrun
    injection hrun with _ hw
    subst hw
    have hc := holds j y hy
    rw [Addr.add_lit, Nat.zero_add] at hc
    exact cell_alloc (w := w.drew) hc _
/-- append(s, x), s the call's own: in a region that draws its order. -/
theorem wp_append_one {P : Program} {w : World} {o : Oper} {a : Act} {K : Act → World → Prop} {Q : Exit → Act → World → Prop} (s x : Operand) (t : TypeId)
    (ho : o.op = .call { callee := .builtin .append, args := #[s, x], argTypes := #[t, t] })
    (base : Nat) (e : TypeId) (z : Value) (bytes : Nat) (ht : P.underlying t = some (.slice e)) (hinfo : (P.info? e).map (fun i => (i.zero, i.size, i.bytes)) = some (some z, 1, bytes)) (hzs : z.cells.size = 1)
    (v : Value) (n : Nat) (xs : List Value) (hs : a.eval s = v) (hown : w.ownsRow base e 1 v n xs) (ad : Addr) (c : Nat) (u : Value) (hx : a.eval x = .slice (some ad) 1 c) (hu : w.cell? ad = some u) (h1 : u.oneCell' = true)
    (h63 : n + 1 ≤ maxLen) (hbytes : (n + 1) * bytes ≤ 140737488355328) (hbase : base ≤ w.heap.size)
    (h : ∀ v' w', w'.ownsRow base e 1 v' (n + 1) (xs ++ [u]) → w.grownBy w' v.ownBlock → (∀ g cap, v = .slice (some ⟨g, 0, none⟩) n cap → ∀ j y, xs[j]? = some y → w'.cell? ⟨g, j, none⟩ = some y) → K (a.put o.dst v') w') : o.wp P a w K Q := by
  obtain ⟨i0, hi, hz0, hz1, hz2⟩ := info_parts hinfo
  have hnews : ∀ j y, [u][j]? = some y → w.cell? (ad.add j) = some y := fun j y hy => by
    cases j with
    | zero =>
      simp at hy
      subst hy
      obtain ⟨b, off, spot⟩ := ad
      have hsp : spot = none := World.cell?_spot hu
      subst hsp
      rw [Addr.add_lit]; exact hu
    | succ j => simp at hy
  obtain ⟨v', w', hrun, ho', hg', _⟩ := run_append_own (P := P) (w := w) base t o.type e i0 z 1 bytes ht hi hz0 hz1 hz2 hzs (by decide) v n xs hown ad 1 c [u] rfl hnews (fun y hy => by simp at hy; subst hy; exact h1) h63 hbytes hbase
  unfold Oper.wp
  simp [execOp, ho, resolve, invoke, builtin, hs, hx, hrun, Result.andThen]
  refine h v' w' ho' hg' fun g cap hv => ?_
  subst hv
  exact append_keeps ht hi hz0 hz1 hz2 hown hnews h1 h63 hbytes hrun
theorem step_append_one {P : Program} {ops : Array Oper} {w : World} {o : Oper} {a : Act} {K : Act → World → Prop} {Q : Exit → Act → World → Prop} {E : Prop} (hgd : o.guard = none) (s x : Operand) (t : TypeId)
    (ho : o.op = .call { callee := .builtin .append, args := #[s, x], argTypes := #[t, t] })
    (base : Nat) (e : TypeId) (z : Value) (bytes : Nat) (ht : P.underlying t = some (.slice e)) (hinfo : (P.info? e).map (fun i => (i.zero, i.size, i.bytes)) = some (some z, 1, bytes)) (hzs : z.cells.size = 1)
    (v : Value) (n : Nat) (xs : List Value) (hs : a.eval s = v) (hown : w.ownsRow base e 1 v n xs) (ad : Addr) (c : Nat) (u : Value) (hx : a.eval x = .slice (some ad) 1 c) (hu : w.cell? ad = some u) (h1 : u.oneCell' = true)
    (h63 : n + 1 ≤ maxLen) (hbytes : (n + 1) * bytes ≤ 140737488355328) (hbase : base ≤ w.heap.size)
    (h : ∀ v' w', w'.ownsRow base e 1 v' (n + 1) (xs ++ [u]) → w.grownBy w' v.ownBlock → (∀ g cap, v = .slice (some ⟨g, 0, none⟩) n cap → ∀ j y, xs[j]? = some y → w'.cell? ⟨g, j, none⟩ = some y) → K (a.put o.dst v') w') : if Region.wanted o (yielded ops a.tmps) = true then Oper.wp P o a w K Q else E := by
  have hw : Region.wanted o (yielded ops a.tmps) = true := by simp [Region.wanted, hgd]
  rw [if_pos hw]
  exact wp_append_one s x t ho base e z bytes ht hinfo hzs v n xs hs hown ad c u hx hu h1 h63 hbytes hbase h
theorem C_allL (k : IntKind) (xs : List Nat) : (C k xs).all (·.oneCell') = true := by
  rw [List.all_eq_true]; exact C_one k xs
theorem below_grown {B : Nat} {w0 w w' : World} {g : Nat} (h : Below B w0 w) (hg : w.grownBy w' (some g)) (hB : B ≤ g) (hl : g < w.heap.size) : Below B w0 w' :=
  h.grown hg (by omega) (fun k hk => by simp only [Option.some.injEq] at hk; omega)
theorem SlV.shp {w : World} {v : Value} {k : IntKind} {xs : List Nat} (h : SlV w v (C k xs)) {n : Nat} (hn : xs.length = n) : ∃ a cap, v = .slice a n cap ∧ n ≤ cap ∧ cap ≤ maxLen := by
  obtain ⟨a, cap, e, h1, h2⟩ := h.shape
  rw [C_length, hn] at e h1
  exact ⟨a, cap, e, h1, h2⟩
/-- So many noughts. -/
def Z (n : Nat) : List Nat := List.replicate n 0
theorem Z_length (n : Nat) : (Z n).length = n := by simp [Z]
theorem Z_lo {b : Nat} (h : 0 < b) (n : Nat) : Lo b (Z n) := Lo.zeros h n
theorem Z_drop (n m : Nat) : (Z n).drop m = Z (n - m) := by rw [Z, List.drop_replicate]; rfl
theorem Z_take (n m : Nat) : (Z n).take m = Z (min m n) := by simp [Z, List.take_replicate]
theorem set_at (l : List Nat) (n x y : Nat) : (l ++ (y :: List.replicate n 0)).set l.length x = l ++ (x :: List.replicate n 0) := by
  rw [List.set_append_right _ _ (Nat.le_refl _)]; simp
theorem getD_at (l r : List Nat) (y : Nat) : (l ++ (y :: r)).getD l.length 0 = y := by simp [List.getD]
/-- The first k of a row, and noughts. -/
def upto (l : List Nat) (n k : Nat) : List Nat := l.take k ++ Z (n - k)
theorem upto_zero (l : List Nat) (n : Nat) : upto l n 0 = Z n := by simp [upto]
theorem upto_all {l : List Nat} {n : Nat} (h : l.length = n) : upto l n n = l := by simp [upto, Z, List.take_of_length_le (Nat.le_of_eq h)]
theorem upto_length {l : List Nat} {n k : Nat} (h : l.length = n) (hk : k ≤ n) : (upto l n k).length = n := by simp [upto, Z]; omega
theorem upto_succ {l : List Nat} {n k : Nat} (h : l.length = n) (hk : k < n) : (upto l n k).set k (l.getD k 0) = upto l n (k + 1) := by
  obtain ⟨m, hm⟩ : ∃ m, n - k = m + 1 := ⟨n - k - 1, by omega⟩
  have hlt : (l.take k).length = k := by simp; omega
  unfold upto Z
  rw [hm, List.replicate_succ, show n - (k + 1) = m by omega]
  have := set_at (l.take k) m (l.getD k 0) 0
  rw [hlt] at this
  rw [this, take_snoc (show k < l.length by omega)]
  simp only [List.getD, List.getElem?_eq_getElem (show k < l.length by omega), Option.getD_some, List.append_assoc, List.singleton_append]
theorem upto_row {w : World} {g : Nat} {e : TypeId} {q : IntKind} {l : List Nat} {n k : Nat} {z : Int} (hC : Row w g e (C q (upto l n k))) (h : l.length = n) (hk : k < n) (hz : z = ((l.getD k 0 : Nat) : Int)) : Row (w.setCell ⟨g, k, none⟩ (.int q z)) g e (C q (upto l n (k + 1))) := by
  subst hz
  rw [← upto_succ h hk, C_set]
  exact hC.set k _
/-- A slice of what a new block holds, the block marked. -/
theorem SlV_newF (w : World) (us : List Value) (e : TypeId) (fr : Nat × Nat) (hl : us.length ≤ maxLen) : SlV (w.alloc (.cells us.toArray e fr)) (.slice (some ⟨w.heap.size, 0, none⟩) us.length us.length) us := by
  refine ⟨_, us.length, rfl, Nat.le_refl _, hl, fun h => by simp at h, fun _ => ⟨_, _, rfl, ?_⟩⟩
  intro i y hy
  rw [World.cell?, heap_alloc_new]
  simpa using hy
theorem alloc_size (w : World) (o : Obj) : (w.alloc o).heap.size = w.heap.size + 1 := by simp
theorem Row.newAt (w : World) (g : Nat) (hg : g = w.heap.size) (e : TypeId) (us : List Value) : Row (w.alloc (.cells us.toArray e)) g e us := hg ▸ Row.new w e us
/-- Memory that is made behind what was there. -/
theorem Below.more {B : Nat} {w0 w : World} (h : Below B w0 w) (hB : B ≤ w.heap.size) (o : Obj) : Below B w0 (w.alloc o) ∧ B ≤ (w.alloc o).heap.size := ⟨h.alloc hB o, by rw [alloc_size]; omega⟩
theorem cell_set_ne {w : World} {g i j : Nat} {u x : Value} (h : w.cell? ⟨g, j, none⟩ = some x) (hne : i ≠ j) : (w.setCell ⟨g, i, none⟩ u).cell? ⟨g, j, none⟩ = some x := by
  simp [go_sem, h]
theorem C_all (k : IntKind) (xs : List Nat) : (C k xs).toArray.all (·.oneCell') = true := by
  rw [Array.all_eq_true_iff_forall_mem]
  intro u hu
  exact C_one k xs u (by simpa using hu)
theorem C_size (k : IntKind) (xs : List Nat) : (C k xs).toArray.size = xs.length := by simp [C]
theorem below_setCell {B : Nat} {w0 w : World} (h : Below B w0 w) {g i : Nat} (hg : B ≤ g) (u : Value) : Below B w0 (w.setCell ⟨g, i, none⟩ u) := h.setCell hg u
theorem below_setRow' {B : Nat} {w0 w : World} (h : Below B w0 w) {g : Nat} (hg : B ≤ g) (cs : Array Value) : Below B w0 (w.setRow g cs) := below_setRow h hg cs
/-- What a function's own array, its result, is read as. -/
theorem result_row {P : Program} {fn : Func} {R : Ending → World → Prop} {a : Act} {w : World} {p : Tmp} {ty : TypeId} (hr : fn.results = #[.cell p ty]) {g : Nat} {us : List Value} {d : TypeDesc}
    (hp : a.tmps.getD p undef = .pointer (some ⟨g, 0, none⟩)) (hg : Row w g ty us) (hu : P.underlying ty = some d) (hd : (match d with | .struct _ | .array _ _ => true | _ => false) = true) (hi : (P.info? ty).map (·.size) = some us.length)
    (hdf : a.defers = []) (h : R (.returned (.agg us.toArray)) w) : bodyPost P fn R .ret a w :=
  bodyPost_ret (results_cell_row hr a.tmps w g ty us.toArray (0, 0) d hp hg hu (by cases d <;> simp_all) (by simpa using hi)) hdf h
end Go.Proofs.YtcllmkfaifalgaaDoor
