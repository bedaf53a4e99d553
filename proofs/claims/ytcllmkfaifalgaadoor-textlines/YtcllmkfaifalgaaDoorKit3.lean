/-
  More of my own small kit, over whatever program: arrays of integers that come in, and that are compared. Conditions: elements of one cell.
-/
import Derived.Test.YtcllmkfaifalgaaDoorKit2
import Derived.ProofKit
import Derived.OpenShut
import Derived.WideShapes
import Derived.ChangeKeysEq
import Derived.Laws.OwnMore
namespace Go.Proofs.YtcllmkfaifalgaaDoor
open Go.ChangeShapes Go.WideShapes Go.RowKit
set_option linter.unusedVariables false

theorem mapM_ints {H : Type} {enc : TypeId × Value → H} {P : Program} {W : World} {base : Nat} {sp : Nat → Bool} {held : Bool} {e : TypeId} {q : IntKind} (he : P.underlying e = some (.int q)) {m : Nat} {cs : List Value} :
    ∀ (L : List Nat) (xs : List (DataW H × List MemPlace)), L.mapM (fun i => DataW.trod enc P W base sp held m e ((cs.drop (i * 1)).take 1)) = some xs →
    ∀ i ∈ L, ∃ z, (cs.drop i).take 1 = [.int q z] ∧ (Lit.int q z).wf = true
  | [], xs, h, i, hi => by cases hi
  | j :: L, xs, h, i, hi => by
    rw [List.mapM_cons] at h
    simp only [bind, Option.bind_eq_some_iff, pure, Option.some.injEq] at h
    obtain ⟨y, hy, ys, hys, rfl⟩ := h
    rcases List.mem_cons.1 hi with rfl | hi
    · obtain ⟨a, ea, _, wa⟩ := DataW.trod_int he hy
      rw [Nat.mul_one] at ea
      exact ⟨a, ea, wa⟩
    · exact mapM_ints he L ys hys i hi

/-- An array of integers that came in. -/
theorem open_array {H : Type} {enc : TypeId × Value → H} {P : Program} {W : World} {base : Nat} {sp : Nat → Bool} {held : Bool} {t e : TypeId} {n : Nat} {q : IntKind} {r : Reach} {b0 : Nat} {v : Value} {d : DataW H} {ps : List MemPlace}
    (hu : P.underlying t = some (.array n e)) (he : P.underlying e = some (.int q)) (hc : P.cellsOf e = 1) (hn : P.cellsOf t = n) (hval : Value.okWide P W r b0 t v) (hd : DataW.Trod enc P W base sp held t v d ps) :
    ∃ zs : List Int, v = .agg (zs.map (Value.int q)).toArray ∧ zs.length = n ∧ ∀ z ∈ zs, (Lit.int q z).wf = true := by
  simp only [Value.okWide, hu] at hval
  obtain ⟨cs, rfl, h2, _⟩ := hval
  rw [hn] at h2
  obtain ⟨fuel, hf⟩ := hd
  cases fuel with
  | zero => simp [DataW.trod] at hf
  | succ m =>
    rw [DataW.trod_step] at hf
    unfold DataW.trodStep at hf
    simp only [hu, Value.cells] at hf
    rw [if_pos (by rw [hn]; simpa using h2)] at hf
    simp only [Option.map_eq_some_iff, hc] at hf
    obtain ⟨xs, hx, _⟩ := hf
    have hall := mapM_ints he _ xs hx
    obtain ⟨l⟩ := cs
    simp only at hall h2
    have hg : ∀ i (hi : i < l.length), ∃ z, l[i] = .int q z ∧ (Lit.int q z).wf = true := by
      intro i hi
      have hl : l.length = n := by simpa using h2
      obtain ⟨z, hz, hw⟩ := hall i (List.mem_range.2 (by omega))
      refine ⟨z, ?_, hw⟩
      rw [List.drop_eq_getElem_cons hi] at hz
      simp only [List.take_succ_cons, List.take_zero, List.cons.injEq, and_true] at hz
      exact hz
    refine ⟨l.map intOf, ?_, by simpa using h2, ?_⟩
    · congr 2
      apply List.ext_getElem (by simp)
      intro i h1 h3
      obtain ⟨z, hz, _⟩ := hg i h1
      simp [hz, intOf]
    · intro z hz
      obtain ⟨u, hu', rfl⟩ := List.mem_map.1 hz
      obtain ⟨i, hi, rfl⟩ := List.getElem_of_mem hu'
      obtain ⟨z, hz, hw⟩ := hg i hi
      rw [hz]; simpa [intOf] using hw

/-- Two arrays of integers compared. -/
theorem run_eqItems_ints {P : Program} (w : World) (d : Nat) {e : TypeId} {q : IntKind} (hp : P.plainKey e = true) (he : P.underlying e = some (.int q)) (xs ys : List Int) : ∀ (L : List Nat), (∀ i ∈ L, i < xs.length ∧ i < ys.length) →
    (Op.eqItems (d + 1) e 1 (xs.map (Value.int q)).toArray (ys.map (Value.int q)).toArray L).run P w = .ok (L.all fun i => xs.getD i 0 == ys.getD i 0) w
  | [], _ => by simp [Op.eqItems]
  | i :: L, h => by
    obtain ⟨h1, h2⟩ := h i (by simp)
    have p1 := run_part_plain (P := P) w hp (xs := (xs.map (Value.int q)).toArray) (off := i * 1) (v := .int q (xs.getD i 0)) (by simp [h1])
    have p2 := run_part_plain (P := P) w hp (xs := (ys.map (Value.int q)).toArray) (off := i * 1) (v := .int q (ys.getD i 0)) (by simp [h2])
    have p3 := run_equalIn_int (P := P) w d e q q (xs.getD i 0) (ys.getD i 0) he
    have ih := run_eqItems_ints w d hp he xs ys L fun j hj => h j (by simp [hj])
    simp only [Op.eqItems, Sem.run_bind, p1, p2, p3, Result.andThen_ok, List.all_cons]
    cases hb : (xs.getD i 0 == ys.getD i 0)
    · simp
    · simpa using ih
theorem run_equal_ints {P : Program} (w : World) (d : Nat) {t e : TypeId} {n : Nat} {q : IntKind} {i : TypeInfo} (hu : P.underlying t = some (.array n e)) (hp : P.plainKey e = true) (he : P.underlying e = some (.int q)) (hi : P.info? e = some i) (hc : P.cellsOf e = 1)
    (xs ys : List Int) (hx : xs.length = n) (hy : ys.length = n) : (Op.equalIn (d + 2) t (.agg (xs.map (Value.int q)).toArray) (.agg (ys.map (Value.int q)).toArray)).run P w = .ok (decide (xs = ys)) w := by
  rw [run_equalIn_array w (d + 1) _ _ hu hi, hc, run_eqItems_ints w d hp he xs ys _ (fun i hi => by have := List.mem_range.1 hi; omega)]
  congr 1
  rw [Bool.eq_iff_iff]
  simp only [List.all_eq_true, List.mem_range, beq_iff_eq, decide_eq_true_eq]
  constructor
  · intro h
    apply List.ext_getElem (by omega)
    intro i h1 h2
    simpa [List.getD, List.getElem?_eq_getElem h1, List.getElem?_eq_getElem h2] using h i (by omega)
  · rintro rfl i _; rfl

/-- The shape of a row of the call's own that is not empty. -/
theorem own_shape {w : World} {base : Nat} {e : TypeId} {size n : Nat} {v : Value} {xs : List Value} (h : w.ownsRow base e size v n xs) (hp : 0 < n) : ∃ g cap, v = .slice (some ⟨g, 0, none⟩) n cap ∧ base ≤ g ∧ g < w.heap.size ∧ n ≤ cap ∧ cap ≤ maxLen := by
  rcases h.2 with ⟨_, hn⟩ | ⟨g, cap, cur, rfl, hb, hg, hnc, hcm, _⟩
  · omega
  · exact ⟨g, cap, rfl, hb, (h.lt g rfl).2, hnc, hcm⟩
end Go.Proofs.YtcllmkfaifalgaaDoor
