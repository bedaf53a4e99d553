/-
  Rows of a call's own that are written over; a list of lines beside itself. Conditions: as each says.
-/
import Derived.Test.YtcllmkfaifalgaaDoorTxO
namespace Go.Proofs.YtcllmkfaifalgaaDoor.T
open Go Go.RowKit
set_option linter.unusedVariables false
set_option maxRecDepth 100000

theorem own_later {w w' : World} {E : Nat} {e : TypeId} {v : Value} {n : Nat} {xs : List Value} (hb : Below w.heap.size w w') (h : w.ownsRow E e 1 v n xs) : w'.ownsRow E e 1 v n xs := by
  refine ⟨h.1, ?_⟩
  rcases h.2 with h2 | ⟨g, cap, cur, hv, hg, hgb, r⟩
  · exact .inl h2
  · have hlt : g < w.heap.size := by
      rcases Nat.lt_or_ge g w.heap.size with h3 | h3
      · exact h3
      · rw [Array.getElem?_eq_none h3] at hgb; cases hgb
    exact .inr ⟨g, cap, cur, hv, hg, by rw [hb.block g hlt]; exact hgb, r⟩
/-- Where its row lies. -/
theorem own_at {w : World} {E : Nat} {e : TypeId} {v : Value} {n : Nat} {xs : List Value} (h : w.ownsRow E e 1 v n xs) {i : Nat} (hi : i < n) : ∃ g cap cur u, v = .slice (some ⟨g, 0, none⟩) n cap ∧ n ≤ cap ∧ cap ≤ maxLen ∧ E ≤ g ∧ w.heap[g]? = some (.cells cur e (0, 0)) ∧ w.cell? ⟨g, i, none⟩ = some u ∧ w.frozen? ⟨g, i, none⟩ = false := by
  rcases h.2 with ⟨_, h2⟩ | ⟨g, cap, cur, hv, hg, hgb, h1, h2, h3, h4⟩
  · omega
  · have hic : i < cur.size := by omega
    refine ⟨g, cap, cur, cur[i], hv, h1, h2, hg, hgb, ?_, ?_⟩
    · simp [World.cell?, hgb, hic]
    · simp [World.frozen?, hgb]
/-- A cell written: each row still lies where it lay, whatever it holds. -/
theorem own_set {w : World} {E : Nat} {e : TypeId} {v : Value} {n : Nat} {xs : List Value} (h : w.ownsRow E e 1 v n xs) (g i : Nat) (u : Value) : ∃ ys, (w.setCell ⟨g, i, none⟩ u).ownsRow E e 1 v n ys := by
  rcases h.2 with ⟨rfl, h2⟩ | ⟨g', cap, cur, hv, hg, hgb, h1, h2, h3, h4⟩
  · exact ⟨xs, h.1, .inl ⟨rfl, h2⟩⟩
  · by_cases hgg : g = g'
    · subst hgg
      have hl := h.1
      refine ⟨(cur.setIfInBounds i u).toList.take (n * 1), by simp; omega, .inr ⟨g, cap, cur.setIfInBounds i u, hv, hg, ?_, h1, h2, by simpa using h3, rfl⟩⟩
      simp [World.setCell, Array.getElem?_modify, hgb]
    · exact ⟨xs, h.1, .inr ⟨g', cap, cur, hv, hg, by rw [Below.heap_setCell _ _ _ _ (fun e => hgg e.symm)]; exact hgb, h1, h2, h3, h4⟩⟩
/-- A cell written beside a row of another type. -/
theorem own_set_ne {w : World} {E : Nat} {e e' : TypeId} {v : Value} {n : Nat} {xs : List Value} (h : w.ownsRow E e 1 v n xs) {g i : Nat} {u : Value} {c : Array Value} {fr : Nat × Nat} (hg' : w.heap[g]? = some (.cells c e' fr)) (hne : e ≠ e') : (w.setCell ⟨g, i, none⟩ u).ownsRow E e 1 v n xs := by
  refine ⟨h.1, ?_⟩
  rcases h.2 with h2 | ⟨g', cap, cur, hv, hg, hgb, r⟩
  · exact .inl h2
  · refine .inr ⟨g', cap, cur, hv, hg, ?_, r⟩
    rw [Below.heap_setCell _ _ _ _ (fun e1 => ?_)]; exact hgb
    simp only at e1
    subst e1
    rw [hgb] at hg'
    cases hg'
    exact hne rfl
/-- Rows of the call's own, one for each line, whatever they hold. -/
def Lw (w : World) (E : Nat) : List Value → List (List Int) → Prop
  | [], [] => True
  | u :: vs, l :: ls => (∃ zs, w.ownsRow E 5 1 u l.length zs) ∧ Lw w E vs ls
  | _, _ => False
theorem Lw.ofLs {w : World} {E : Nat} : ∀ {vs : List Value} {ls : List (List Int)}, Ls w E vs ls → Lw w E vs ls
  | [], [], _ => trivial
  | _ :: _, _ :: _, h => ⟨⟨_, h.1⟩, Lw.ofLs h.2⟩
  | [], _ :: _, h => h.elim
  | _ :: _, [], h => h.elim
theorem Lw.get {w : World} {E : Nat} : ∀ {vs : List Value} {ls : List (List Int)}, Lw w E vs ls → ∀ (i : Nat) (hi : i < ls.length), ∃ u zs, vs[i]? = some u ∧ w.ownsRow E 5 1 u ls[i].length zs
  | u :: vs, l :: ls, h, 0, _ => ⟨u, h.1.choose, rfl, h.1.choose_spec⟩
  | u :: vs, l :: ls, h, i + 1, hi => by
    obtain ⟨x, zs, hx, ho⟩ := Lw.get h.2 i (by simpa using hi)
    exact ⟨x, zs, by simpa using hx, by simpa using ho⟩
  | [], [], _, _, hi => by simp at hi
  | [], _ :: _, h, _, _ => h.elim
  | _ :: _, [], h, _, _ => h.elim
theorem Lw.set {w : World} {E : Nat} (g i : Nat) (u : Value) : ∀ {vs : List Value} {ls : List (List Int)}, Lw w E vs ls → Lw (w.setCell ⟨g, i, none⟩ u) E vs ls
  | [], [], _ => trivial
  | _ :: _, _ :: _, h => ⟨own_set h.1.choose_spec g i u, Lw.set g i u h.2⟩
  | [], _ :: _, h => h.elim
  | _ :: _, [], h => h.elim
theorem same_self (v1 v2 : Value) (vs1 vs2 : List Value) (l : List (List Int)) (w : World) (h1 : SlV w v1 vs1) (h2 : SlV w v2 vs2) (r1 : Lr w vs1 l) (r2 : Lr w vs2 l) (b : ∀ x ∈ l, Byt x) :
    Calls Tryd.prog 9 #[v1, v2] w fun e w' => e = .returned (.bool true) ∧ Below w.heap.size w w' :=
  (same_any v1 v2 vs1 vs2 l l w h1 h2 r1 r2 b b).mono fun e w' h => ⟨by rw [h.1, decide_eq_true rfl], h.2⟩
end Go.Proofs.YtcllmkfaifalgaaDoor.T
