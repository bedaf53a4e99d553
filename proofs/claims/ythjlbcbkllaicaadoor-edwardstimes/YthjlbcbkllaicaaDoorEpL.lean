/-
  Points that come in, and the base's variable: structs of two arrays opened. Conditions: each as it says.
-/
import Derived.Test.YthjlbcbkllaicaaDoorEpK
import Derived.OpenShut
import Derived.ProofKit
import Derived.LaidMore
namespace Go.Proofs.YthjlbcbkllaicaaDoor.F
open Go.RowKit Go.ChangeShapes Go.WideShapes Go.ChangeAt
set_option linter.unusedVariables false
set_option maxRecDepth 10000

open E (Pt)
/-- Cells that are an array of integers. -/
theorem trod_ints {H : Type} {enc : TypeId × Value → H} {P : Program} {W : World} {base : Nat} {sp : Nat → Bool} {held : Bool} {fuel : Nat} {t e : TypeId} {n : Nat} {q : IntKind} {cs : List Value} {x : DataW H × List MemPlace}
    (hu : P.underlying t = some (.array n e)) (he : P.underlying e = some (.int q)) (hc : P.cellsOf e = 1) (hn : P.cellsOf t = n) (h : DataW.trod enc P W base sp held fuel t cs = some x) :
    ∃ zs : List Int, cs = zs.map (Value.int q) ∧ zs.length = n ∧ (∀ z ∈ zs, (Lit.int q z).wf = true) ∧ x.1 = .agg (zs.map fun z => DataW.lit (.int q z)) := by
  obtain ⟨xs, m, rfl, hx, hlen, hl, hel⟩ := DataW.trod_array hu h
  have key : ∀ i, i < n → ∃ k, cs[i]? = some (.int q k) ∧ (xs[i]?).map (·.1) = some (DataW.lit (.int q k)) ∧ (Lit.int q k).wf = true := by
    intro i hi
    have hi' := hel i hi
    rw [hc, Nat.mul_one] at hi'
    have hxi : xs[i]? = some xs[i] := List.getElem?_eq_getElem (by omega)
    rw [hxi] at hi'
    obtain ⟨k, e1, e2, e3⟩ := DataW.trod_int he hi'
    refine ⟨k, ?_, by rw [hxi]; simp [e2], e3⟩
    have := congrArg (fun l => l[0]?) e1
    simpa using this
  have hgen : ∀ (n : Nat) (cs : List Value) (ys : List (DataW H)), cs.length = n → ys.length = n → (∀ i, i < n → ∃ k, cs[i]? = some (.int q k) ∧ ys[i]? = some (DataW.lit (.int q k)) ∧ (Lit.int q k).wf = true) →
      ∃ zs : List Int, cs = zs.map (Value.int q) ∧ zs.length = n ∧ (∀ z ∈ zs, (Lit.int q z).wf = true) ∧ ys = zs.map fun z => DataW.lit (.int q z) := by
    intro n
    induction n with
    | zero =>
      intro cs ys h1 h2 _
      obtain rfl := List.length_eq_zero_iff.1 h1
      obtain rfl := List.length_eq_zero_iff.1 h2
      exact ⟨[], rfl, rfl, by simp, rfl⟩
    | succ n ih =>
      intro cs ys h1 h2 hk
      match cs, ys, h1, h2 with
      | c :: cs, y :: ys, h1, h2 =>
        obtain ⟨k, k1, k2, k3⟩ := hk 0 (by omega)
        simp at k1 k2
        obtain ⟨zs, e1, e2, e3, e4⟩ := ih cs ys (by simpa using h1) (by simpa using h2) (fun i hi => by
          obtain ⟨k, a, b, c⟩ := hk (i + 1) (by omega)
          exact ⟨k, by simpa using a, by simpa using b, c⟩)
        refine ⟨k :: zs, by rw [k1, e1]; rfl, by simp [e2], fun z hz => ?_, by rw [k2, e4]; rfl⟩
        rcases List.mem_cons.1 hz with rfl | hz
        · exact k3
        · exact e3 z hz
  obtain ⟨zs, e1, e2, e3, e4⟩ := hgen n cs (xs.map (·.1)) (by rw [hlen, hn]) (by rw [List.length_map, hl]) (fun i hi => by
    obtain ⟨k, a, b, c⟩ := key i hi
    exact ⟨k, a, by rw [List.getElem?_map]; exact b, c⟩)
  exact ⟨zs, e1, e2, e3, by rw [hx, e4]⟩
/-- Two arrays in a struct. -/
theorem trod_point {H : Type} {enc : TypeId × Value → H} {W : World} {base : Nat} {sp : Nat → Bool} {held : Bool} {fuel : Nat} {cs : List Value} {x : DataW H × List MemPlace}
    (h : DataW.trod enc Tryd.prog W base sp held fuel 26 cs = some x) :
    ∃ zs ys : List Int, cs = zs.map (Value.int .u64) ++ ys.map (Value.int .u64) ∧ zs.length = 4 ∧ ys.length = 4 ∧ (∀ z ∈ zs, (Lit.int .u64 z).wf = true) ∧ (∀ z ∈ ys, (Lit.int .u64 z).wf = true) ∧
      x.1 = .agg [.agg (zs.map fun z => DataW.lit (.int .u64 z)), .agg (ys.map fun z => DataW.lit (.int .u64 z))] := by
  obtain ⟨xs, n, rfl, hx, hlen, hl, hg⟩ := DataW.trod_struct Tryd.underlying26 h
  have t0 : DataW.trod enc Tryd.prog W base sp held n 24 (List.take (Tryd.prog.cellsOf 24) (List.drop 0 cs)) = xs[0]? := hg 0 _ rfl
  have t1 : DataW.trod enc Tryd.prog W base sp held n 24 (List.take (Tryd.prog.cellsOf 24) (List.drop 4 cs)) = xs[1]? := hg 1 _ rfl
  rw [show Tryd.prog.cellsOf 26 = 8 by kernel_rfl] at hlen
  rw [show Tryd.prog.cellsOf 24 = 4 by kernel_rfl] at t0 t1
  match xs, hl with
  | [y0, y1], _ =>
    obtain ⟨zs, a1, a2, a3, a4⟩ := trod_ints Tryd.underlying24 Tryd.underlying22 (by kernel_rfl) (by kernel_rfl) (t0.trans rfl)
    obtain ⟨ys, b1, b2, b3, b4⟩ := trod_ints Tryd.underlying24 Tryd.underlying22 (by kernel_rfl) (by kernel_rfl) (t1.trans rfl)
    refine ⟨zs, ys, ?_, a2, b2, a3, b3, by rw [hx]; simp [a4, b4]⟩
    have a1' : cs.take 4 = zs.map (Value.int .u64) := by simpa using a1
    have b1' : cs.drop 4 = ys.map (Value.int .u64) := by
      rw [← b1, List.take_of_length_le (by simp; omega)]
    rw [← a1', ← b1', List.take_append_drop]
/-- A point that came in. -/
theorem open_point {H : Type} {enc : TypeId × Value → H} {W : World} {base : Nat} {sp : Nat → Bool} {held : Bool} {r : Reach} {b0 : Nat} {v : Value} {d : DataW H} {ps : List MemPlace}
    (hval : Value.okWide Tryd.prog W r b0 26 v) (h : DataW.Trod enc Tryd.prog W base sp held 26 v d ps) : ∃ A B, A < 115792089237316195423570985008687907853269984665640564039457584007913129639936 ∧ B < 115792089237316195423570985008687907853269984665640564039457584007913129639936 ∧ v = .agg (pc A B).toArray := by
  obtain ⟨cs, rfl, hsz⟩ := okWide_struct Tryd.underlying26 hval
  obtain ⟨fuel, hf⟩ := h
  obtain ⟨zs, ys, e1, l1, l2, w1, w2, _⟩ := trod_point hf
  obtain ⟨A, lA, eA⟩ := elem_of l1 w1
  obtain ⟨B, lB, eB⟩ := elem_of l2 w2
  refine ⟨A, B, lA, lB, ?_⟩
  have e : cs.toList = pc A B := by
    have : cs.toList = zs.map (Value.int .u64) ++ ys.map (Value.int .u64) := e1
    rw [this, eA, eB]
    rfl
  rw [← e]
/-- The base's variable. -/
theorem laid_point {W : World} {name : String} {g A B : Nat} {d : DataW Unit} (hg : Tryd.prog.globalNamed name = some g) (hT : (Tryd.prog.globals[g]?).map (·.type) = some 26)
    (hd : d = .agg [.agg ((wds A).map fun (x : Nat) => DataW.lit (.int .u64 (x : Int))), .agg ((wds B).map fun (x : Nat) => DataW.lit (.int .u64 (x : Int)))]) (h : laidMet Tryd.prog [(name, d)] W) : GlobC W g (pc A B) := by
  obtain ⟨ps, ⟨g0, t0, cs, f0, p0, q0, hg0, ht0, hv0, hd0, _, _⟩, _, _⟩ := h
  obtain rfl := Option.some.inj (hg.symm.trans hg0)
  obtain rfl := Option.some.inj (hT.symm.trans ht0)
  obtain ⟨zs, ys, e1, l1, l2, w1, w2, e2⟩ := trod_point hd0
  have hinj : ∀ (us : List Int) (n : Nat), us.map (fun z => DataW.lit (H := Unit) (.int .u64 z)) = (wds n).map (fun (x : Nat) => DataW.lit (.int .u64 (x : Int))) → us.map (Value.int .u64) = ec n := by
    intro us n hq
    have : us = (wds n).map Int.ofNat := by
      have h2 : us.map (fun z => DataW.lit (H := Unit) (.int .u64 z)) = ((wds n).map Int.ofNat).map (fun z => DataW.lit (.int .u64 z)) := by
        rw [hq, List.map_map]; rfl
      refine List.map_inj_right (fun a b hab => ?_) |>.1 h2
      injection hab with hab
      injection hab
    rw [this, ec, C, List.map_map]
    rfl
  rw [hd] at e2
  simp only [DataW.agg.injEq, List.cons.injEq, and_true] at e2
  have hcs : cs = (pc A B).toArray := by
    apply Array.ext'
    rw [e1, hinj zs A e2.1.symm, hinj ys B e2.2.symm]
    rfl
  subst hcs
  simp only [World.var?, hg, Option.bind_some] at hv0
  split at hv0
  · next c t f heq =>
      obtain rfl := Option.some.inj hv0
      exact ⟨_, _, heq⟩
  · cases hv0
end Go.Proofs.YthjlbcbkllaicaaDoor.F
