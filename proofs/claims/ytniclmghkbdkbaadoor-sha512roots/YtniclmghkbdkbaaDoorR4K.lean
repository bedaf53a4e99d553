/-
  What the document's numbers' contracts stand on, over this seat's translation: answers as numbers, slices' shapes. No conditions.
-/
import Derived.Test.YtniclmghkbdkbaaDoorNatM5
import Derived.Test.YtniclmghkbdkbaaDoorKit5
import Derived.Test.YtniclmghkbdkbaaDoorRows
import Derived.Deep.RegionHeld3
import Derived.WalkKit
import Derived.Deep.CutRange
import Derived.Deep.DeepCutAuto
import Derived.Deep.Cut
namespace Go.Proofs.YtniclmghkbdkbaaDoor
open Go.RowKit
set_option linter.unusedVariables false

theorem Tryd.info60 : (Tryd.prog.info? 60).map (fun i => (i.zero, i.size, i.bytes)) = some (some (.int .u32 0), 1, 4) := by kernel_rfl
theorem Tryd.size60 : (Tryd.prog.info? 60).map (·.size) = some 1 := by kernel_rfl
theorem SlV.cap {w : World} {a : Option Addr} {n cap : Nat} {xs : List Value} (h : SlV w (.slice a n cap) xs) (k : Nat) (hk : k ≤ n) : SlV w (.slice a k k) (xs.take k) := by
  obtain ⟨a', c', e, q1, q2, q3, q4⟩ := h
  simp only [Value.slice.injEq] at e
  obtain ⟨rfl, rfl, rfl⟩ := e
  have hl : (xs.take k).length = k := by rw [List.length_take]; omega
  refine ⟨a, k, by rw [hl], by omega, by omega, fun e => by have := q3 e; omega, fun hp => ?_⟩
  obtain ⟨b, off, rfl, q5⟩ := q4 (by omega)
  refine ⟨b, off, rfl, fun i u hu => q5 i u ?_⟩
  rw [List.getElem?_take] at hu
  split at hu
  · exact hu
  · cases hu
/-- A slice that reads as the words of N, without noughts at their end; in block g. -/
def Ans (B : Nat) (w : World) (v : Value) (N : Nat) : Prop :=
  ∃ zs, Is W32 N zs ∧ SlV w v (C .u32 zs) ∧ (0 < zs.length → ∃ g rest, v = .slice (some ⟨g, 0, none⟩) zs.length zs.length ∧ B ≤ g ∧ Row w g 60 (C .u32 zs ++ rest))
theorem Ans.below {B B' : Nat} {w w' : World} {v : Value} {N : Nat} (h : Ans B w v N) (hb : Below w.heap.size w w') : Ans B w' v N := by
  obtain ⟨zs, h1, h2, h3⟩ := h
  refine ⟨zs, h1, h2.below hb, fun hp => ?_⟩
  obtain ⟨g, rest, e, hg, hr⟩ := h3 hp
  exact ⟨g, rest, e, hg, hr.belowS hb⟩
theorem Ans.nil (B : Nat) (w : World) : Ans B w (.slice none 0 0) 0 := ⟨[], Is.nil, SlV.nil w, fun h => by simp at h⟩
theorem Ans.base {B B' : Nat} {w : World} {v : Value} {N : Nat} (h : Ans B w v N) (hb : B' ≤ B) : Ans B' w v N := by
  obtain ⟨zs, h1, h2, h3⟩ := h
  refine ⟨zs, h1, h2, fun hp => ?_⟩
  obtain ⟨g, rest, e, hg, hr⟩ := h3 hp
  exact ⟨g, rest, e, by omega, hr⟩
theorem SlV.shapeC {k : IntKind} {w : World} {v : Value} {xs : List Nat} (h : SlV w v (C k xs)) {n : Nat} (hn : xs.length = n) : ∃ a cap, v = .slice a n cap ∧ n ≤ cap ∧ cap ≤ maxLen := by
  obtain ⟨a, cap, e, h1, h2⟩ := h.shape
  rw [C_length, hn] at e h1
  exact ⟨a, cap, e, h1, h2⟩
theorem wrapU (x : Int) : IntKind.u64.wrap x = x % 18446744073709551616 := by simp [IntKind.wrap, IntKind.signed, IntKind.bits]
theorem mul_bound {x y : Nat} (hx : x < 4294967296) (hy : y < 4294967296) : x * y ≤ 18446744065119617025 := by
  have := Nat.mul_le_mul (Nat.le_of_lt_succ (by omega : x < 4294967295 + 1)) (Nat.le_of_lt_succ (by omega : y < 4294967295 + 1))
  omega
/-- A block of cells stays in a turn of what is no cells. -/
theorem Row.turn {A B : World} {g : Nat} {e : TypeId} {us : List Value} {row : Option Nat} (h : Row A g e us) (hg : A.grownBy B row) (hr : ∀ r, row = some r → ∃ o : Obj, A.heap[r]? = some o ∧ o.isCells = false) : Row B g e us :=
  h.grown hg (fun e => by
    obtain ⟨o, ho, hc⟩ := hr g e.symm
    rw [show A.heap[g]? = _ from h] at ho; cases ho; cases hc)
theorem or64 (x y : Nat) (hx : x < 4294967296) (hy : y < 4294967296) : bits .or .u64 ((x : Int) * 4294967296) (y : Int) = ((x * 4294967296 + y : Nat) : Int) := by
  rw [show (x : Int) * 4294967296 = ((x * 4294967296 : Nat) : Int) by simp, u64_or_nat _ _ (by omega) (by omega)]
  have := Nat.two_pow_add_eq_or_of_lt (i := 32) (show y < 2 ^ 32 by omega) x
  rw [Nat.mul_comm] at this
  rw [show (4294967296 : Nat) = 2 ^ 32 from rfl, ← this]
theorem getD_set_same {xs : List Nat} {i : Nat} (h : i < xs.length) (z : Nat) : (xs.set i z).getD i 0 = z := by simp [List.getD, h]
theorem SlV.turn {A B : World} {v : Value} {xs : List Value} {row : Option Nat} (h : SlV A v xs) (hg : A.grownBy B row) (hr : ∀ r, row = some r → ∃ o : Obj, A.heap[r]? = some o ∧ o.isCells = false) : SlV B v xs := by
  obtain ⟨a, cap, rfl, h1, h2, h3, h4⟩ := h
  refine ⟨a, cap, rfl, h1, h2, h3, fun hp => ?_⟩
  obtain ⟨b, off, e, h5⟩ := h4 hp
  exact ⟨b, off, e, fun i u hu => cell_kept (h5 i u hu) hg hr⟩
theorem wrap32 (x : Int) : IntKind.u32.wrap x = x % 4294967296 := by simp [IntKind.wrap, IntKind.signed, IntKind.bits]
end Go.Proofs.YtniclmghkbdkbaaDoor
