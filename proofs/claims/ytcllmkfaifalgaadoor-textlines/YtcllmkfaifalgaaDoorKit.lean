/-
  My own small kit for walks over slices: 'SlV' (a slice value that reads as a list of values), 'ownsRow' behind make, copy and append, the conversion of bytes to a string. Over whatever program. Conditions: elements of one cell.
-/
import Derived.WalkKit
import Derived.WalkSpells
import Derived.WalkLawsBesides
import Derived.BigQuiet
import Derived.Deep.QuietTactic
import Derived.Handy
import Derived.Deep.RegionHeld3
import Derived.Laws.CopyOwn
import Derived.Laws.AppendOwnNone
namespace Go.Proofs.YtcllmkfaifalgaaDoor
open Go.RowKit
set_option linter.unusedVariables false

theorem hide {p : Prop} (h : p) : Hid p := h
theorem unhide {p : Prop} (h : Hid p) : p := h

/-- The value v is a slice that reads as xs (elements of one cell) in the world w. -/
def SlV (w : World) (v : Value) (xs : List Value) : Prop :=
  ∃ a cap, v = .slice a xs.length cap ∧ xs.length ≤ cap ∧ cap ≤ maxLen ∧ (a = none → cap = 0) ∧
    (0 < xs.length → ∃ b off, a = some ⟨b, off, none⟩ ∧ ∀ i u, xs[i]? = some u → w.cell? ⟨b, off + i, none⟩ = some u)

/-- Numbers that are bytes. -/
def Byt (xs : List Int) : Prop := ∀ n ∈ xs, 0 ≤ n ∧ n ≤ 255
/-- Bytes as cells. -/
def U (xs : List Int) : List Value := xs.map (Value.int .u8)
theorem U_length (xs : List Int) : (U xs).length = xs.length := by simp [U]
theorem U_append (xs ys : List Int) : U (xs ++ ys) = U xs ++ U ys := by simp [U]
theorem U_take (xs : List Int) (n : Nat) : U (xs.take n) = (U xs).take n := by simp [U]
theorem U_drop (xs : List Int) (n : Nat) : U (xs.drop n) = (U xs).drop n := by simp [U]
theorem U_inj {xs ys : List Int} (h : U xs = U ys) : xs = ys := by
  refine List.map_inj_right ?_ |>.1 h
  intro a b hab; simpa using hab
theorem U_get (xs : List Int) (i : Nat) (h : i < xs.length) : (U xs)[i]? = some (.int .u8 xs[i]) := by simp [U, h]
theorem U_one (xs : List Int) : ∀ u ∈ U xs, u.oneCell' = true := ints_oneCell _ _

theorem Byt.nil : Byt [] := by intro n h; cases h
theorem Byt.append {xs ys : List Int} (h : Byt xs) (k : Byt ys) : Byt (xs ++ ys) := by
  intro n hn; rcases List.mem_append.1 hn with h' | h'
  · exact h n h'
  · exact k n h'
theorem Byt.take {xs : List Int} (h : Byt xs) (n : Nat) : Byt (xs.take n) := fun m hm => h m (List.mem_of_mem_take hm)
theorem Byt.drop {xs : List Int} (h : Byt xs) (n : Nat) : Byt (xs.drop n) := fun m hm => h m (List.mem_of_mem_drop hm)
theorem Byt.get {xs : List Int} (h : Byt xs) (i : Nat) (hi : i < xs.length) : 0 ≤ xs[i] ∧ xs[i] ≤ 255 := h _ (List.getElem_mem hi)

section
variable {w w' : World} {v : Value} {xs : List Value}

theorem SlV.nil (w : World) : SlV w (.slice none 0 0) [] := ⟨none, 0, rfl, Nat.le_refl _, Nat.zero_le _, fun _ => rfl, fun h => absurd h (by simp)⟩

/-- What is read stays so where its block stays. -/
theorem SlV.keep (h : SlV w v xs) (hb : ∀ b, v.ownBlock = some b → b < w.heap.size → w'.heap[b]? = w.heap[b]?) : SlV w' v xs := by
  obtain ⟨a, cap, rfl, h1, h2, h3, h4⟩ := h
  refine ⟨a, cap, rfl, h1, h2, h3, fun hp => ?_⟩
  obtain ⟨b, off, rfl, hc⟩ := h4 hp
  refine ⟨b, off, rfl, fun i u hu => ?_⟩
  have hcu := hc i u hu
  have hlt : b < w.heap.size := World.block_lt_of_cell? w _ hcu
  rw [World.cell?_of_block (w := w) (hb b rfl hlt)]
  exact hcu
theorem SlV.below (h : SlV w v xs) (hb : Below w.heap.size w w') : SlV w' v xs := h.keep fun b _ hlt => hb.block b hlt
theorem SlV.belowOf {B : Nat} (h : SlV w v xs) (hb : Below B w w') (hv : ∀ b, v.ownBlock = some b → b < B) : SlV w' v xs := h.keep fun b e _ => hb.block b (hv b e)
theorem SlV.grown {row : Option Nat} (h : SlV w v xs) (hg : w.grownBy w' row) (hne : ∀ b, v.ownBlock = some b → some b ≠ row) : SlV w' v xs := h.keep fun b e hlt => hg.block b hlt (hne b e)

/-- What the call made is read as what it holds. -/
theorem SlV.ofOwn {base : Nat} {e : TypeId} {n : Nat} (h : w.ownsRow base e 1 v n xs) : SlV w v xs := by
  have hl := h.1
  rw [Nat.mul_one] at hl
  rcases h.2 with ⟨rfl, rfl⟩ | ⟨g, cap, cur, rfl, _, hg, hnc, hcm, hcs, htake⟩
  · have : xs = [] := List.eq_nil_of_length_eq_zero hl
    subst this; exact SlV.nil w
  · subst hl
    refine ⟨_, cap, rfl, hnc, hcm, fun h => by simp at h, fun _ => ⟨g, 0, rfl, fun i u hu => ?_⟩⟩
    have := h.cells (g := g) rfl i u hu
    rw [Addr.add_lit] at this
    exact this

theorem own_base {base base' : Nat} {e : TypeId} {size n : Nat} (h : w.ownsRow base e size v n xs) (hb : base' ≤ base) : w.ownsRow base' e size v n xs := by
  refine ⟨h.1, ?_⟩
  rcases h.2 with hn | ⟨g, cap, cur, hv, hg, r⟩
  · exact .inl hn
  · exact .inr ⟨g, cap, cur, hv, Nat.le_trans hb hg, r⟩
theorem own_block {base : Nat} {e : TypeId} {size n : Nat} (h : w.ownsRow base e size v n xs) : ∀ b, v.ownBlock = some b → base ≤ b ∧ b < w.heap.size := h.lt

/-- The slice's shape: for the walk. -/
theorem SlV.shape (h : SlV w v xs) : ∃ a cap, v = .slice a xs.length cap ∧ xs.length ≤ cap ∧ cap ≤ maxLen := by
  obtain ⟨a, cap, rfl, h1, h2, _, _⟩ := h; exact ⟨a, cap, rfl, h1, h2⟩
theorem SlV.shapeU {xs : List Int} (h : SlV w v (U xs)) {n : Nat} (hn : xs.length = n) : ∃ a cap, v = .slice a n cap ∧ n ≤ cap ∧ cap ≤ maxLen := by
  obtain ⟨a, cap, e, h1, h2⟩ := h.shape
  rw [U_length, hn] at e h1
  exact ⟨a, cap, e, h1, h2⟩
theorem SlV.cellAt {b off n cap : Nat} (h : SlV w (.slice (some ⟨b, off, none⟩) n cap) xs) {i : Nat} {u : Value} (hu : xs[i]? = some u) : w.cell? ⟨b, off + i, none⟩ = some u := by
  obtain ⟨a, c, e, _, _, _, h4⟩ := h
  have hp : 0 < xs.length := by have := (List.getElem?_eq_some_iff.1 hu).1; omega
  obtain ⟨b', off', rfl, h5⟩ := h4 hp
  simp only [Value.slice.injEq, Option.some.injEq, Addr.mk.injEq, and_true] at e
  obtain ⟨⟨rfl, rfl⟩, -, -⟩ := e
  exact h5 i u hu
theorem SlV.len (h : SlV w v xs) : xs.length ≤ maxLen := by obtain ⟨a, cap, _, h1, h2, _⟩ := h; omega
end

section
variable {P : Program} (w : World)

/-- string(b). -/
theorem run_string (src dst e : TypeId) (hs : P.underlying src = some (.slice e)) (he : P.underlying e = some (.int .u8)) (hd : P.underlying dst = some .string) (v : Value) (xs : List Int) (h : SlV w v (U xs)) :
    (convert src dst v).run P w = .ok (.string (strOfNums xs)) w := by
  obtain ⟨a, cap, rfl, h1, h2, h3, h4⟩ := h
  rw [U_length] at *
  by_cases hp : 0 < xs.length
  · obtain ⟨b, off, rfl, hc⟩ := h4 hp
    refine run_convert_bytes_arg w src e hs he b off xs.length cap xs rfl (fun i hi => ?_) dst hd
    rw [hc i _ (U_get xs i hi)]
    simp [List.getD, List.getElem?_eq_getElem hi]
  · have : xs = [] := List.eq_nil_of_length_eq_zero (by omega)
    subst this
    cases a with
    | none => rw [run_convert_bytes_nil w src e hs he _ _ dst hd]; rfl
    | some ad =>
      rw [run_convert_bytes_string w src dst e _ _ cap hs he hd]
      exact run_bytesToString w ad 0 cap [] (by simp [loadCells, loadCellsFrom])
end

theorem strOfNums_inj {xs ys : List Int} (hx : Byt xs) (hy : Byt ys) (h : strOfNums xs = strOfNums ys) : xs = ys := by
  have h2 : (strOfNums xs).data.toList = (strOfNums ys).data.toList := by rw [h]
  rw [strOfNums_data, strOfNums_data] at h2
  have hl : xs.length = ys.length := by simpa using congrArg List.length h2
  apply List.ext_getElem hl
  intro i hi hj
  have h3 : (xs.map fun n => UInt8.ofNat n.toNat)[i]? = (ys.map fun n => UInt8.ofNat n.toNat)[i]? := by rw [h2]
  simp [hi, hj] at h3
  have a1 := hx.get i hi
  have a2 := hy.get i hj
  have h4 := congrArg UInt8.toNat h3
  simp at h4
  omega

/-- What 'make([]T, n)' leaves, elements of one cell. -/
theorem own_made {w : World} {base : Nat} {e : TypeId} {z : Value} {v : Value} {n : Nat} (h : w.ownsRow base e 1 v n (madeCells #[z] n).toList) : w.ownsRow base e 1 v n (List.replicate n z) := by
  rwa [toList_madeCells_one] at h

/-- copy(dst, src), dst the call's own and whole, src whatever is read, not longer. -/
theorem wpList_copy_full {P : Program} {w : World} {ops : Array Oper} {rest : List Oper} {o : Oper} {a : Act} {Q : Exit → Act → World → Prop} (hgd : o.guard = none) (d s : Operand) (t : TypeId)
    (ho : o.op = .call { callee := .builtin .copy, args := #[d, s], argTypes := #[t, t] }) (e : TypeId) (hu : P.underlying t = some (.slice e)) (hsz : (P.info? e).map (·.size) = some 1)
    (base n cap m : Nat) (g : Nat) (xs ys : List Value) (sa : Option Addr) (sc : Nat) (hd : a.eval d = .slice (some ⟨g, 0, none⟩) n cap) (hs : a.eval s = .slice sa m sc) (hm : m = ys.length)
    (hown : w.ownsRow base e 1 (.slice (some ⟨g, 0, none⟩) n cap) n xs) (hsl : SlV w (.slice sa m sc) ys) (hle : ys.length ≤ n) (h1 : ∀ u ∈ ys, u.oneCell' = true)
    (h : ∀ w', w'.ownsRow base e 1 (.slice (some ⟨g, 0, none⟩) n cap) n (ys ++ xs.drop ys.length) → w.grownBy w' (some g) → w'.heap.size = w.heap.size → wpList P ops Q rest (a.put o.dst (goInt ys.length)) w') :
    wpList P ops Q (o :: rest) a w := by
  subst hm
  obtain ⟨hlx, hrow⟩ := hown
  rcases hrow with ⟨h', _⟩ | ⟨g', cap', cur, h', hbg, hg, hnc, hcm, hcs, htake⟩
  · simp at h'
  simp only [Value.slice.injEq, Option.some.injEq, Addr.mk.injEq, and_true, true_and] at h'
  obtain ⟨rfl, rfl⟩ := h'
  rw [Nat.mul_one] at hcs htake hlx
  have hfin : ∀ ysl : List Value, ysl.length = ys.length → ysl = ys → (w.setRow g (cur.toList.take 0 ++ (ysl ++ cur.toList.drop (0 + ysl.length))).toArray).ownsRow base e 1 (.slice (some ⟨g, 0, none⟩) n cap) n (ys ++ xs.drop ys.length) := by
    intro ysl _ he
    subst he
    refine ⟨by simp [hlx]; omega, .inr ⟨g, cap, _, rfl, hbg, setRow_heap w g cur _ e _ hg, hnc, hcm, ?_, ?_⟩⟩
    · simp [hcs]; omega
    · simp only [List.take_zero, List.nil_append, Nat.zero_add, Nat.mul_one]
      rw [List.take_append, List.take_of_length_le (by omega), ← List.drop_take, htake]
  by_cases h0 : ys.length = 0
  · obtain rfl : ys = [] := List.eq_nil_of_length_eq_zero h0
    refine wpList_copy_nothing hgd d s t t ho e hu hsz _ _ _ _ _ _ hd hs (Nat.zero_min _) ?_
    exact h w ⟨by simp [hlx], .inr ⟨g, cap, cur, rfl, hbg, hg, hnc, hcm, by simpa using hcs, by simpa using htake⟩⟩ ⟨rfl, rfl, rfl, Nat.le_refl _, fun _ _ _ => rfl⟩ rfl
  · obtain ⟨a', c', he, _, _, _, hc⟩ := hsl
    obtain ⟨b, off, rfl, hcell⟩ := hc (by omega)
    simp only [Value.slice.injEq] at he
    obtain ⟨rfl, -, -⟩ := he
    refine wpList_copy_own hgd d s t t ho e hu hsz g 0 n cap ⟨b, off, none⟩ ys.length sc hd hs cur e hg ys (by rw [show Nat.min ys.length n = min ys.length n from rfl]; omega) (fun j u hu => ?_) (by omega) h1 ?_
    · rw [Addr.add_lit]; exact hcell j u hu
    · exact h _ (hfin ys rfl rfl) ⟨rfl, rfl, rfl, by simp [World.setRow], fun k _ hk => setRow_other w g k _ (fun e => hk (by rw [e]))⟩ (by simp [World.setRow])

/-- append(s, x...), s the call's own, x whatever is read. -/
theorem wpList_append_sl {P : Program} {w : World} {ops : Array Oper} {rest : List Oper} {o : Oper} {a : Act} {Q : Exit → Act → World → Prop} (hgd : o.guard = none) (s x : Operand) (t : TypeId)
    (ho : o.op = .call { callee := .builtin .append, args := #[s, x], argTypes := #[t, t] })
    (base : Nat) (e : TypeId) (z : Value) (bytes : Nat) (ht : P.underlying t = some (.slice e)) (hinfo : (P.info? e).map (fun i => (i.zero, i.size, i.bytes)) = some (some z, 1, bytes)) (hzs : z.cells.size = 1)
    (v : Value) (n : Nat) (xs : List Value) (hs : a.eval s = v) (hown : w.ownsRow base e 1 v n xs) (sv : Value) (ys : List Value) (hx : a.eval x = sv) (hsl : SlV w sv ys) (h1 : ∀ u ∈ ys, u.oneCell' = true)
    (h63 : n + ys.length ≤ maxLen) (hbytes : (n + ys.length) * bytes ≤ 140737488355328) (hbase : base ≤ w.heap.size)
    (h : ∀ v' w', w'.ownsRow base e 1 v' (n + ys.length) (xs ++ ys) → w.grownBy w' v.ownBlock → wpList P ops Q rest (a.put o.dst v') w') : wpList P ops Q (o :: rest) a w := by
  obtain ⟨i0, hi, hz0, hz1, hz2⟩ := info_parts hinfo
  obtain ⟨a', c', rfl, hle, hcm, hnone, hc⟩ := hsl
  by_cases h0 : a' = none
  · subst h0
    obtain rfl := hnone rfl
    obtain rfl : ys = [] := List.eq_nil_of_length_eq_zero (by omega)
    refine wpList_append_own_none hgd s x t ho base e i0 1 ht hi v n xs hs hown (by simpa using hx) ?_
    exact h v w (by simpa using hown) ⟨rfl, rfl, rfl, Nat.le_refl _, fun _ _ _ => rfl⟩
  · obtain ⟨ad, rfl⟩ := Option.ne_none_iff_exists'.1 h0
    refine wpList_append_own w hgd s x t ho base e i0 z 1 bytes ht hi hz0 hz1 hz2 hzs (by decide) v n xs hs hown ad ys.length c' ys hx (by omega) ?_ h1 h63 hbytes hbase (fun v' w' p q _ => h v' w' p q)
    intro j u hu
    have hp : 0 < ys.length := by
      have := (List.getElem?_eq_some_iff.1 hu).1
      omega
    obtain ⟨b, off, he, hcell⟩ := hc hp
    simp only [Option.some.injEq] at he
    subst he
    rw [Addr.add_lit]; exact hcell j u hu

/-- A slice that was just built of one value. -/
theorem SlV_one (w : World) (u : Value) (e : TypeId) : SlV (w.alloc (.cells #[u] e)) (.slice (some ⟨w.heap.size, 0, none⟩) 1 1) [u] := by
  refine ⟨_, 1, rfl, Nat.le_refl _, by unfold maxLen; omega, fun h => by simp at h, fun _ => ⟨_, _, rfl, ?_⟩⟩
  intro i y hy
  match i, hy with
  | 0, hy => simp at hy; subst hy; simp
theorem own_empty (w : World) (base : Nat) (e : TypeId) (hb : base ≤ w.heap.size) : (w.alloc (.cells #[] e)).ownsRow base e 1 (.slice (some ⟨w.heap.size, 0, none⟩) 0 0) 0 [] :=
  World.ownsRow_made w #[] 0 hb (Nat.zero_le _) rfl

theorem own_empty_at (w : World) (base g : Nat) (e : TypeId) (hg : g = w.heap.size) (hb : base ≤ w.heap.size) : (w.alloc (.cells #[] e)).ownsRow base e 1 (.slice (some ⟨g, 0, none⟩) 0 0) 0 [] := by
  subst hg; exact own_empty w base e hb
theorem below_of_drew {w w' : World} (h : Below w.drew.heap.size w.drew w') : Below w.heap.size w w' := ⟨h.os, h.tape, h.output, h.size, h.block⟩
theorem grown_below {w w' : World} {row : Option Nat} {B : Nat} {w0 : World} (hb : Below B w0 w) (hB : B ≤ w0.heap.size) (hg : w.grownBy w' row) (hr : ∀ k, row = some k → B ≤ k) : Below B w0 w' :=
  hb.grown hg (Nat.le_trans hB hb.size) hr

/-- x[l:l+m]. -/
theorem SlV.cut {w : World} {a : Option Addr} {n cap : Nat} {xs : List Value} (h : SlV w (.slice a n cap) xs) (l m : Nat) (hl : l + m ≤ n) : SlV w (.slice (a.map (fun x => x.add l)) m (cap - l)) ((xs.drop l).take m) := by
  obtain ⟨a', c', he, h1, h2, h3, h4⟩ := h
  simp only [Value.slice.injEq] at he
  obtain ⟨rfl, rfl, rfl⟩ := he
  have hlen : ((xs.drop l).take m).length = m := by simp; omega
  refine ⟨_, cap - l, by rw [hlen], by omega, by omega, fun h => ?_, fun hp => ?_⟩
  · have := h3 (Option.map_eq_none_iff.1 h); omega
  · obtain ⟨b, off, rfl, hc⟩ := h4 (by omega)
    refine ⟨b, off + l, by simp [Addr.add_lit], fun i u hu => ?_⟩
    rw [List.getElem?_take] at hu
    split at hu
    · rw [List.getElem?_drop] at hu
      rw [Nat.add_assoc]
      exact hc _ _ hu
    · cases hu
/-- x[l:l+m] at the capacity's end. -/
theorem SlV.cutEnd {w : World} {a : Option Addr} {n cap : Nat} {xs : List Value} (h : SlV w (.slice a n cap) xs) (l m : Nat) (hl : l + m ≤ n) (hc : cap = l) : SlV w (.slice a m 0) ((xs.drop l).take m) := by
  obtain ⟨a', c', he, h1, h2, h3, h4⟩ := h
  simp only [Value.slice.injEq] at he
  obtain ⟨rfl, rfl, rfl⟩ := he
  obtain rfl : m = 0 := by omega
  exact ⟨a, 0, by simp, by simp, Nat.zero_le _, fun _ => rfl, fun hp => by simp at hp⟩

/-- x[l:l+m], the address as the walk writes it. -/
theorem SlV.cutIf {w : World} {a : Option Addr} {n cap : Nat} {xs : List Value} (h : SlV w (.slice a n cap) xs) (l m : Nat) (hl : l + m ≤ n) : SlV w (.slice (if cap = l then a else a.map (fun x => x.add l)) m (cap - l)) ((xs.drop l).take m) := by
  split
  · rename_i hc
    have := h.cutEnd l m hl hc
    rwa [hc, Nat.sub_self]
  · exact h.cut l m hl

/-! Regions that draw their order, walked by hand: the operations as a list, so that each comes out written. -/
theorem getL {L : List Oper} {i : Nat} {o : Oper} (h : L[i]? = some o) : (L.toArray)[i]? = some o := by simpa using h
theorem wpAnyH_takeL {P : Program} {L : List Oper} {Q : Exit → Act → World → Prop} {md : Region.Mode} {S : World → Prop} {i : Nat} {oi : Oper} {v : Value} {fuel : Nat} {listed : Array Bool} {a : Act} {w : World} (hi : L[i]? = some oi)
    (hs : Region.noSelect L.toArray = true) (hf : Region.free md L.toArray listed i = true) (hr : (Region.ready md L.toArray listed).contains i = true)
    (hQ : ∀ c a w, Q (.panic c) (a.put oi.dst v) w → Q (.panic c) a w) (hw : Region.wanted oi (yielded L.toArray a.tmps) = true) (hy : ∀ w, S w → (execOp a.eval oi).run P w = .ok (.value v) w) (hS : S w)
    (h : wpAnyH P md L.toArray Q S fuel (listed.setIfInBounds i true) (a.put oi.dst v) w) : wpAnyH P md L.toArray Q S (fuel + 1) listed a w :=
  wpAnyH_take (getL hi) hs hf hr hQ (.inl ⟨hw, hy⟩) hS h
theorem allReadyH_oneL {P : Program} {md : Region.Mode} {L : List Oper} {Q : Exit → Act → World → Prop} {S : World → Prop} {fuel : Nat} {listed : Array Bool} {a : Act} {w : World} {i : Nat} {o : Oper} (hr : Region.ready md L.toArray listed = [i]) (ho : L[i]? = some o) (hw : Region.wanted o (yielded L.toArray a.tmps) = true)
    (h : ∀ K' : Act → World → Prop, Shut (∀ a w, S w → (S w → wpAnyH P md L.toArray Q S fuel (listed.setIfInBounds i true) a w) → K' a w) → Oper.wp P o a w K' Q) : wpAnyH P md L.toArray Q S (fuel + 1) listed a w :=
  wpAnyH_ready hr (by simp) (AllReadyH.cons (getL ho) (fun K hK => by rw [if_pos hw]; exact h K hK) AllReadyH.nil)

/-- A slice of integers that came in: nil, or it leads to a row of 'cap' cells, the numbers zs, the first 'len' of them its elements. -/
def IsRow (k : IntKind) (w : World) (a : Option Addr) (len cap : Nat) (zs : List Int) : Prop :=
  (a = none ∧ len = 0 ∧ cap = 0 ∧ zs = []) ∨
  ∃ x, a = some x ∧ len ≤ cap ∧ cap ≤ maxLen ∧ zs.length = cap ∧ (∀ i, i < zs.length → w.cell? (x.add i) = some (.int k (zs.getD i 0))) ∧ ∀ n ∈ zs, (Lit.int k n).wf = true

theorem IsRow.sl {k : IntKind} {w : World} {a : Option Addr} {len cap : Nat} {zs : List Int} (h : IsRow k w a len cap zs) : SlV w (.slice a len cap) ((zs.take len).map (Value.int k)) ∧ (zs.take len).length = len ∧ ∀ n ∈ zs.take len, (Lit.int k n).wf = true := by
  rcases h with ⟨rfl, rfl, rfl, rfl⟩ | ⟨x, rfl, hl, hm, hz, hcell, hwz⟩
  · exact ⟨SlV.nil w, rfl, by simp⟩
  · have hlen : (zs.take len).length = len := by simp; omega
    refine ⟨⟨some x, cap, by simp; omega, by simp; omega, hm, fun h => by simp at h, fun hp => ?_⟩, hlen, fun n hn => hwz n (List.mem_of_mem_take hn)⟩
    obtain ⟨b, off, spot⟩ := x
    have hp' : 0 < zs.length := by simp at hp; omega
    have hspot : spot = none := by simpa [Addr.add] using World.cell?_spot (hcell 0 hp')
    subst hspot
    refine ⟨b, off, rfl, fun i u hu => ?_⟩
    have hi : i < zs.length ∧ i < len := by
      have := (List.getElem?_eq_some_iff.1 hu).1
      simp at this; omega
    have := hcell i hi.1
    rw [Addr.add_lit] at this
    rw [this]
    simp [hi.2, List.getElem?_eq_getElem hi.1] at hu
    simp [List.getD, List.getElem?_eq_getElem hi.1, hu]

theorem byt_of_wf {xs : List Int} (h : ∀ n ∈ xs, (Lit.int .u8 n).wf = true) : Byt xs := by
  intro n hn
  have := h n hn
  simp [Lit.wf, IntKind.min, IntKind.max, IntKind.signed, IntKind.bits] at this
  omega

end Go.Proofs.YtcllmkfaifalgaaDoor
