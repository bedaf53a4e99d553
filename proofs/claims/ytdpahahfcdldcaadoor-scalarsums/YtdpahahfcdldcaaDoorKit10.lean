/-
  More of my own small kit, over whatever program: a package's variable that is an array of integers, laid by its initialiser: its cells. Conditions: elements of one cell.
-/
import Derived.Test.YtdpahahfcdldcaaDoorKit4
import Derived.ProofKit
import Derived.LaidMore
import Derived.OpenShut
import Derived.Stop.Joined
namespace Go.Proofs.YtdpahahfcdldcaaDoor
open Go.RowKit Go.ChangeShapes Go.WideShapes Go.ChangeAt
set_option linter.unusedVariables false

theorem laid_ints {P : Program} {W : World} {name : String} {g n : Nat} {T e : TypeId} {q : IntKind} {L : List Nat} {d : DataW Unit} (hg : P.globalNamed name = some g) (hT : (P.globals[g]?).map (·.type) = some T) (hu : P.underlying T = some (.array n e)) (he : P.underlying e = some (.int q)) (hc : P.cellsOf e = 1)
    (hL : L.length = n) (hd : d = .agg (L.map fun (x : Nat) => DataW.lit (.int q (x : Int)))) (h : laidMet P [(name, d)] W) : ∀ i, i < n → W.cell? ⟨g, i, none⟩ = some (.int q (L.getD i 0 : Nat)) := by
  obtain ⟨ps, ⟨g0, t0, cs, f0, p0, q0, hg0, ht0, hv0, hd0, _, _⟩, _, _⟩ := h
  obtain rfl := Option.some.inj (hg.symm.trans hg0)
  obtain rfl := Option.some.inj (hT.symm.trans ht0)
  obtain ⟨xs, m, rfl, hx, hlen, hn, hel⟩ := DataW.trod_array hu hd0
  intro i hi
  have hi' := hel i hi
  rw [hc, Nat.mul_one] at hi'
  have hxi : xs[i]? = some xs[i] := List.getElem?_eq_getElem (by omega)
  rw [hxi] at hi'
  obtain ⟨k, e1, e2, _⟩ := DataW.trod_int he hi'
  simp only [Prod.mk.injEq] at hx
  have h1 := hx.1
  rw [hd] at h1
  simp only [DataW.agg.injEq] at h1
  have h2 := congrArg (fun l => l[i]?) h1
  simp only [List.getElem?_map, hxi, Option.map_some] at h2
  have hLi : L[i]? = some (L.getD i 0) := by simp [List.getD, List.getElem?_eq_getElem (show i < L.length by omega)]
  rw [hLi, e2] at h2
  simp only [Option.map_some, Option.some.injEq, DataW.lit.injEq, Lit.int.injEq, true_and] at h2
  rw [World.var?_cell hg0 hv0 i]
  have e3 : cs.toList[i]? = some (.int q k) := by
    have := congrArg (fun l => l[0]?) e1
    simpa using this
  rw [← h2] at e3
  simpa using e3
theorem laid_block {P : Program} {W : World} {name : String} {g n : Nat} {T e : TypeId} {q : IntKind} {L : List Nat} {d : DataW Unit} (hg : P.globalNamed name = some g) (hT : (P.globals[g]?).map (·.type) = some T) (hu : P.underlying T = some (.array n e)) (he : P.underlying e = some (.int q)) (hc : P.cellsOf e = 1) (hcT : P.cellsOf T = n)
    (hL : L.length = n) (hd : d = .agg (L.map fun (x : Nat) => DataW.lit (.int q (x : Int)))) (h : laidMet P [(name, d)] W) : ∃ t f, W.heap[g]? = some (.cells (C q L).toArray t f) := by
  have hall := laid_ints hg hT hu he hc hL hd h
  obtain ⟨ps, ⟨g0, t0, cs, f0, p0, q0, hg0, ht0, hv0, hd0, _, _⟩, _, _⟩ := h
  obtain rfl := Option.some.inj (hg.symm.trans hg0)
  obtain rfl := Option.some.inj (hT.symm.trans ht0)
  obtain ⟨xs, m, rfl, hx, hlen, hn, hel⟩ := DataW.trod_array hu hd0
  have hcs : cs = (C q L).toArray := by
    apply Array.ext'
    apply List.ext_getElem?
    intro i
    by_cases hi : i < n
    · have h1 := hall i hi
      rw [World.var?_cell hg0 hv0 i] at h1
      have h2 := C_get q (xs := L) (i := i) (by omega)
      simp only [Array.getElem?_toList] at h1 ⊢
      rw [h1]
      simpa using h2.symm
    · rw [List.getElem?_eq_none (by omega), List.getElem?_eq_none (by simp [C_length]; omega)]
  subst hcs
  simp only [World.var?, hg, Option.bind_some] at hv0
  split at hv0
  · next c t f heq =>
      obtain rfl := Option.some.inj hv0
      exact ⟨_, _, heq⟩
  · cases hv0
theorem cell_pos {W : World} {g i : Nat} {v : Value} (h : W.cell? ⟨g, i, none⟩ = some v) : g < W.heap.size := by
  by_cases hlt : g < W.heap.size
  · exact hlt
  · simp [World.cell?, Array.getElem?_eq_none (Nat.le_of_not_lt hlt)] at h
end Go.Proofs.YtdpahahfcdldcaaDoor
