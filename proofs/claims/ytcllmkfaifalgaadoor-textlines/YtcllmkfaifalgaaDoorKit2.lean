/-
  More of my own small kit, over whatever program: cells of slices, slices just built, rows that stay, strings as lists of bytes, a builder that stays. Conditions: elements of one cell.
-/
import Derived.Test.YtcllmkfaifalgaaDoorKit
import Derived.Lib.Strings
import Derived.Lib.Bytealg
import Derived.Laws.BitsAllLaws
namespace Go.Proofs.YtcllmkfaifalgaaDoor
open Go.RowKit
set_option linter.unusedVariables false

/-- A fact put away: unlike 'Hid' it is not laid open by 'contradiction', which would run what it says. -/
structure Away (p : Prop) : Prop where
  out : p

theorem ret_int {k : IntKind} {a b : Int} (h : a = b) : Ending.returned (.int k a) = .returned (.int k b) := by rw [h]
/-- How long a slice is. -/
def lenS : Value → Nat
  | .slice _ n _ => n
  | _ => 0
/-- How long a string is. -/
def lenT : Value → Nat
  | .string s => s.size
  | _ => 0
theorem lenT_of (l : List UInt8) : lenT (.string ⟨l.toArray⟩) = l.length := by simp [lenT, ByteArray.size]

/-- A slice's cells, and its block. -/
theorem SlV.cells {w : World} {a : Option Addr} {n cap : Nat} {xs : List Value} (h : SlV w (.slice a n cap) xs) (hp : 0 < xs.length) :
    ∃ b off, a = some ⟨b, off, none⟩ ∧ b < w.heap.size ∧ ∀ i u, xs[i]? = some u → w.cell? ⟨b, off + i, none⟩ = some u := by
  obtain ⟨a', c', e, _, _, _, h4⟩ := h
  simp only [Value.slice.injEq] at e
  obtain ⟨rfl, -, -⟩ := e
  obtain ⟨b, off, rfl, h5⟩ := h4 hp
  refine ⟨b, off, rfl, ?_, h5⟩
  exact World.block_lt_of_cell? w _ (h5 0 _ (List.getElem?_eq_getElem hp))
/-- x[:m]. -/
theorem SlV.upto {w : World} {a : Option Addr} {n cap : Nat} {xs : List Value} (h : SlV w (.slice a n cap) xs) (m : Nat) (hm : m ≤ n) : SlV w (.slice a m cap) (xs.take m) := by
  obtain ⟨a', c', e, q1, q2, q3, q4⟩ := h
  simp only [Value.slice.injEq] at e
  obtain ⟨rfl, rfl, rfl⟩ := e
  have hl : (xs.take m).length = m := by rw [List.length_take]; omega
  refine ⟨a, cap, by rw [hl], by omega, q2, q3, fun hp => ?_⟩
  obtain ⟨b, off, rfl, q5⟩ := q4 (by omega)
  refine ⟨b, off, rfl, fun i u hu => q5 i u ?_⟩
  rw [List.getElem?_take] at hu
  split at hu
  · exact hu
  · cases hu
theorem cell_alloc {w : World} {b o : Nat} {u : Value} (h : w.cell? ⟨b, o, none⟩ = some u) (ob : Obj) : (w.alloc ob).cell? ⟨b, o, none⟩ = some u :=
  (((Below.refl w.heap.size w).alloc (Nat.le_refl _) ob).cell (p := ⟨b, o, none⟩) (World.block_lt_of_cell? w _ h)).trans h
theorem U_getD {xs : List Int} {k : Nat} (h : k < xs.length) : (U xs)[k]? = some (.int .u8 (xs.getD k 0)) := by simp [U, h]
theorem getD_byt {xs : List Int} (h : Byt xs) (k : Nat) : 0 ≤ xs.getD k 0 ∧ xs.getD k 0 ≤ 255 := by
  by_cases hk : k < xs.length
  · simp [List.getD, List.getElem?_eq_getElem hk]; exact h.get k hk
  · simp [List.getD, List.getElem?_eq_none (Nat.le_of_not_lt hk)]
theorem byt_cons {a : Int} {r : List Int} : Byt (a :: r) ↔ (0 ≤ a ∧ a ≤ 255) ∧ Byt r := by simp [Byt]

/-- A slice of all that a new block holds, or of its first cells. -/
theorem SlV_new (w : World) (g m : Nat) (us : List Value) (e : TypeId) (hg : g = w.heap.size) (hm : m ≤ us.length) (hl : us.length ≤ maxLen) : SlV (w.alloc (.cells us.toArray e)) (.slice (some ⟨g, 0, none⟩) m us.length) (us.take m) := by
  subst hg
  have hlen : (us.take m).length = m := by rw [List.length_take]; omega
  refine ⟨_, us.length, by rw [hlen], by omega, hl, fun h => by simp at h, fun _ => ⟨_, _, rfl, ?_⟩⟩
  intro i y hy
  rw [List.getElem?_take] at hy
  split at hy
  · rw [World.cell?, heap_alloc_new]
    simpa using hy
  · cases hy

theorem grown_of_below {a b : World} (h : Below a.heap.size a b) (row : Option Nat) : a.grownBy b row := ⟨h.os, h.tape, h.output, h.size, fun i hi _ => h.block i hi⟩
/-- What is owned stays. -/
theorem own_below {w w' : World} {B size : Nat} {e : TypeId} {v : Value} {n : Nat} {xs : List Value} (h : w.ownsRow B e size v n xs) (hb : Below w.heap.size w w') : w'.ownsRow B e size v n xs :=
  h.kept (row := some w.heap.size) (grown_of_below hb _) (Or.inr (fun e => by have := (h.lt _ e).2; omega))

/-! Strings as lists of bytes. -/
theorem str_size (l : List UInt8) : (⟨l.toArray⟩ : ByteArray).size = l.length := by simp [ByteArray.size]
theorem str_append (l m : List UInt8) : (⟨l.toArray⟩ : ByteArray) ++ ⟨m.toArray⟩ = ⟨(l ++ m).toArray⟩ := by
  rw [ByteArray.ext_iff]
  simp [ByteArray.data_append]
theorem str_cut (t : List UInt8) (a b : Nat) : (⟨t.toArray⟩ : ByteArray).extract a b = ⟨((t.drop a).take (b - a)).toArray⟩ := by
  rw [ByteArray.ext_iff, ByteArray.data_extract]
  simp [List.extract_toArray, List.extract_eq_take_drop]
theorem take_snoc {α : Type} {l : List α} {k : Nat} (h : k < l.length) : l.take (k + 1) = l.take k ++ [l[k]] := by rw [List.take_succ_eq_append_getElem h]

/-- x * 2^k or y, y below 2^k, is the sum (32 bits). -/
theorem or32 (k : Nat) (n x : Int) (h0 : 0 ≤ n) (x0 : 0 ≤ x) (hx : x < 2 ^ k) (hn : n * 2 ^ k + x < 4294967296) : bits .or .u32 (n * 2 ^ k) x = n * 2 ^ k + x := by
  obtain ⟨a, rfl⟩ := Int.eq_ofNat_of_zero_le h0
  obtain ⟨b, rfl⟩ := Int.eq_ofNat_of_zero_le x0
  have hb : b < 2 ^ k := by exact_mod_cast hx
  have e : ((a : Int) * 2 ^ k) = ((2 ^ k * a : Nat) : Int) := by rw [Int.natCast_mul, Int.mul_comm]; simp
  rw [e] at hn ⊢
  rw [u32_or_nat _ _ (by omega) (by omega), ← Nat.two_pow_add_eq_or_of_lt hb a]
  simp
end Go.Proofs.YtcllmkfaifalgaaDoor
