/-
  More of my own small kit, over whatever program: rows of natural numbers as cells; a block that holds just these cells ('Row'), read, stored into, kept. Conditions: elements of one cell.
-/
import Derived.Test.YtcllmkfaifalgaaDoorKit3
namespace Go.Proofs.YtcllmkfaifalgaaDoor
open Go.RowKit
set_option linter.unusedVariables false

/-- Numbers as cells. -/
def C (k : IntKind) (xs : List Nat) : List Value := xs.map fun (n : Nat) => Value.int k (n : Int)
theorem C_length (k : IntKind) (xs : List Nat) : (C k xs).length = xs.length := by simp [C]
theorem C_append (k : IntKind) (xs ys : List Nat) : C k (xs ++ ys) = C k xs ++ C k ys := by simp [C]
theorem C_take (k : IntKind) (xs : List Nat) (n : Nat) : C k (xs.take n) = (C k xs).take n := by simp [C]
theorem C_drop (k : IntKind) (xs : List Nat) (n : Nat) : C k (xs.drop n) = (C k xs).drop n := by simp [C]
theorem C_set (k : IntKind) (xs : List Nat) (i z : Nat) : C k (xs.set i z) = (C k xs).set i (.int k (z : Int)) := by simp [C, List.map_set]
theorem C_get (k : IntKind) {xs : List Nat} {i : Nat} (h : i < xs.length) : (C k xs)[i]? = some (.int k (xs.getD i 0 : Nat)) := by simp [C, h]
theorem C_one (k : IntKind) (xs : List Nat) : ∀ u ∈ C k xs, u.oneCell' = true := by
  intro u hu
  obtain ⟨n, _, rfl⟩ := List.mem_map.1 hu
  rfl
theorem C_zeros (k : IntKind) (n : Nat) : C k (List.replicate n 0) = List.replicate n (.int k 0) := by simp [C]

/-- All below b. -/
def Lo (b : Nat) (xs : List Nat) : Prop := ∀ x ∈ xs, x < b
theorem Lo.nil (b : Nat) : Lo b [] := by intro x h; cases h
theorem Lo.append {b : Nat} {xs ys : List Nat} (h : Lo b xs) (k : Lo b ys) : Lo b (xs ++ ys) := by
  intro n hn; rcases List.mem_append.1 hn with h' | h'
  · exact h n h'
  · exact k n h'
theorem Lo.take {b : Nat} {xs : List Nat} (h : Lo b xs) (n : Nat) : Lo b (xs.take n) := fun m hm => h m (List.mem_of_mem_take hm)
theorem Lo.drop {b : Nat} {xs : List Nat} (h : Lo b xs) (n : Nat) : Lo b (xs.drop n) := fun m hm => h m (List.mem_of_mem_drop hm)
theorem Lo.set {b : Nat} {xs : List Nat} (h : Lo b xs) (i z : Nat) (hz : z < b) : Lo b (xs.set i z) := by
  intro m hm
  rcases List.mem_or_eq_of_mem_set hm with h' | rfl
  · exact h m h'
  · exact hz
theorem Lo.getD {b : Nat} {xs : List Nat} (h : Lo b xs) (hb : 0 < b) (i : Nat) : xs.getD i 0 < b := by
  by_cases hi : i < xs.length
  · simp [List.getD, List.getElem?_eq_getElem hi]; exact h _ (List.getElem_mem hi)
  · simp [List.getD, List.getElem?_eq_none (Nat.le_of_not_lt hi)]; exact hb
theorem Lo.zeros {b : Nat} (hb : 0 < b) (n : Nat) : Lo b (List.replicate n 0) := by
  intro x hx; rw [List.eq_of_mem_replicate hx]; exact hb
theorem Lo.reverse {b : Nat} {xs : List Nat} (h : Lo b xs) : Lo b xs.reverse := fun m hm => h m (List.mem_reverse.1 hm)

/-- Block g holds just these cells. -/
def Row (w : World) (g : Nat) (e : TypeId) (us : List Value) : Prop := w.heap[g]? = some (.cells us.toArray e (0, 0))

section
variable {w w' : World} {g : Nat} {e : TypeId} {us : List Value}
theorem Row.lt (h : Row w g e us) : g < w.heap.size := (Array.getElem?_eq_some_iff.1 h).1
theorem Row.cell (h : Row w g e us) (i : Nat) : w.cell? ⟨g, i, none⟩ = us[i]? := by
  simp [World.cell?, show w.heap[g]? = _ from h]
theorem Row.frozen (h : Row w g e us) (i : Nat) : w.frozen? ⟨g, i, none⟩ = false := by simp [World.frozen?, show w.heap[g]? = _ from h]
theorem Row.set (h : Row w g e us) (i : Nat) (u : Value) : Row (w.setCell ⟨g, i, none⟩ u) g e (us.set i u) := by
  obtain ⟨hlt, hk⟩ := Array.getElem?_eq_some_iff.1 h
  show (w.heap.modify g _)[g]? = _
  rw [Array.getElem?_eq_getElem (by rw [Array.size_modify]; exact hlt), Array.getElem_modify_self, hk]
  simp
theorem Row.keep (h : Row w g e us) (hb : w'.heap[g]? = w.heap[g]?) : Row w' g e us := hb.trans h
theorem Row.grown {row : Option Nat} (h : Row w g e us) (hg : w.grownBy w' row) (hne : some g ≠ row) : Row w' g e us := h.keep (hg.block g h.lt hne)
theorem Row.below {B : Nat} (h : Row w g e us) (hb : Below B w w') (hB : g < B) : Row w' g e us := h.keep (hb.block g hB)
theorem Row.belowS (h : Row w g e us) (hb : Below w.heap.size w w') : Row w' g e us := h.below hb h.lt
theorem Row.other (h : Row w g e us) {b i : Nat} (u : Value) (hne : g ≠ b) : Row (w.setCell ⟨b, i, none⟩ u) g e us := h.keep (Below.heap_setCell _ _ _ _ hne)
theorem Row.alloc (h : Row w g e us) (o : Obj) : Row (w.alloc o) g e us := h.keep (Below.heap_alloc _ _ _ h.lt)
theorem Row.new (w : World) (e : TypeId) (us : List Value) : Row (w.alloc (.cells us.toArray e)) w.heap.size e us := heap_alloc_new w _
theorem Row.sl (h : Row w g e us) (off m cap : Nat) (h1 : off + m ≤ us.length) (h2 : m ≤ cap) (h3 : cap ≤ maxLen) : SlV w (.slice (some ⟨g, off, none⟩) m cap) ((us.drop off).take m) := by
  have hl : ((us.drop off).take m).length = m := by simp; omega
  refine ⟨_, cap, by rw [hl], by omega, h3, fun h => by simp at h, fun _ => ⟨g, off, rfl, fun i u hu => ?_⟩⟩
  rw [h.cell]
  rw [List.getElem?_take] at hu
  split at hu
  · rwa [List.getElem?_drop] at hu
  · cases hu
theorem Row.slAll (h : Row w g e us) (hl : us.length ≤ maxLen) : SlV w (.slice (some ⟨g, 0, none⟩) us.length us.length) us := by
  have := h.sl 0 us.length us.length (by omega) (Nat.le_refl _) hl
  simpa using this
theorem Row.ofOwn {base n : Nat} {xs : List Value} (h : w.ownsRow base e 1 (.slice (some ⟨g, 0, none⟩) n n) n xs) : Row w g e xs := by
  obtain ⟨h1, h2 | ⟨g', cap, cur, h3, _, h4, _, _, h5, h6⟩⟩ := h
  · simp at h2
  · simp only [Value.slice.injEq, Option.some.injEq, Addr.mk.injEq, and_true, true_and] at h3
    obtain ⟨rfl, rfl⟩ := h3
    rw [List.take_of_length_le (by simp; omega)] at h6
    subst h6
    simpa [Row] using h4
/-- A block in which a slice lies that is no longer than it. -/
theorem Row.owns {base n cap : Nat} (h : Row w g e us) (hb : base ≤ g) (hn : n ≤ us.length) (hm : us.length ≤ maxLen) : w.ownsRow base e 1 (.slice (some ⟨g, 0, none⟩) n us.length) n (us.take n) :=
  ⟨by simp; omega, .inr ⟨g, us.length, us.toArray, rfl, hb, h, hn, hm, by simp, by simp⟩⟩
end
theorem grown_set (w : World) (c o : Nat) (u : Value) : w.grownBy (w.setCell ⟨c, o, none⟩ u) (some c) :=
  ⟨rfl, rfl, rfl, by simp [World.setCell], fun k _ hk => Below.heap_setCell _ _ _ _ (fun e => hk (by simpa using e))⟩
theorem grown_tr {a b c : World} {row : Option Nat} (h : a.grownBy b row) (k : b.grownBy c row) : a.grownBy c row :=
  ⟨k.os.trans h.os, k.tape.trans h.tape, k.output.trans h.output, Nat.le_trans h.size k.size, fun i hi hr => (k.block i (Nat.lt_of_lt_of_le hi h.size) hr).trans (h.block i hi hr)⟩
theorem grown_refl (a : World) (row : Option Nat) : a.grownBy a row := ⟨rfl, rfl, rfl, Nat.le_refl _, fun _ _ _ => rfl⟩
/-- A slice of what was handed in is not in a block that is newer. -/
theorem SlV.old {w : World} {a : Option Addr} {n cap : Nat} {xs : List Value} (h : SlV w (.slice a n cap) xs) (hp : 0 < xs.length) : ∃ b off, a = some ⟨b, off, none⟩ ∧ b < w.heap.size := by
  obtain ⟨b, off, e, hl, _⟩ := h.cells hp
  exact ⟨b, off, e, hl⟩
/-- What is read stays where a new block is written. -/
theorem SlV.grownNew {w w2 : World} {v : Value} {xs : List Value} {B : Nat} (h : SlV w v xs) (h2 : Below B w w2) (hv : w.heap.size ≤ B) : SlV w2 v xs :=
  h.keep fun b e hlt => h2.block b (by omega)
end Go.Proofs.YtcllmkfaifalgaaDoor
