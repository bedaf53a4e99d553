/-
  A range over a function whose rounds all go on: what an iterator promises ('Gives'), and the law for the loop over it ('over'). The rounds keep whatever is no cells, just as it was: so an iterator may itself range over another one. Over any program, within the fence that asks nothing.
-/
import Derived.Test.YtcllmkfaifalgaaDoorKit2
import Derived.RangeFuncNested
import Derived.RangeFuncLeaves
namespace Go.Proofs.YtcllmkfaifalgaaDoor.T
open Go Go.RowKit
set_option linter.unusedVariables false

section
variable {P : Program} {α : Type}

/-- What a round leaves as it is: whatever is no cells, and the cells of one type. -/
def kept (ty : TypeId) : Obj → Bool
  | .cells _ t _ => t == ty
  | _ => true
structure Keeps (ty : TypeId) (W W' : World) : Prop where
  size : W.heap.size ≤ W'.heap.size
  same : ∀ (k : Nat) (o : Obj), W.heap[k]? = some o → kept ty o = true → W'.heap[k]? = some o
variable {ty : TypeId}
theorem Keeps.trans {A B C : World} (h : Keeps ty A B) (k : Keeps ty B C) : Keeps ty A C := ⟨Nat.le_trans h.size k.size, fun i o hi ho => k.same i o (h.same i o hi ho) ho⟩
theorem Keeps.refl (W : World) : Keeps ty W W := ⟨Nat.le_refl _, fun _ _ h _ => h⟩
theorem Keeps.ofBelow {W W' : World} (h : Below W.heap.size W W') : Keeps ty W W' :=
  ⟨h.size, fun k o hk _ => (h.block k (Array.getElem?_eq_some_iff.1 hk).1).trans hk⟩
theorem Keeps.grown {W W' : World} {row : Option Nat} (hg : W.grownBy W' row) (hr : ∀ (j : Nat) (o : Obj), row = some j → W.heap[j]? = some o → kept ty o = false) : Keeps ty W W' :=
  ⟨hg.size, fun k o hk ho => (hg.block k (Array.getElem?_eq_some_iff.1 hk).1 (fun e => by rw [hr k o e.symm hk] at ho; cases ho)).trans hk⟩

/-- What an iterator promises that is called with a yield whose rounds all go on: some xs of which S speaks come, one behind the other, at most N. It minds what lay below n₀. -/
def Gives (ty : TypeId) (P : Program) (g : Nat) (lb : Array Value) (enc : α → Value) (S : List α → Prop) (N n₀ : Nat) (w : World) : Prop :=
  ∀ (m l : Nat) (J : List α → World → Prop) (W : World), Below w.heap.size w W → OwnFrom W.heap.size J →
    (∀ pre x W1, J pre W1 → pre.length < N → YieldAt Fence.wide (m - 1) P l #[enc x] W1 fun e W' => e = .returned (.bool true) ∧ J (pre ++ [x]) W' ∧ Below n₀ W1 W' ∧ Keeps ty W1 W') →
    J [] W →
    CallsIn Fence.wide m P g (#[.func (.yield l) #[] #[]] ++ lb) W fun e W' => (∃ v, e = .returned v) ∧ ∃ xs, S xs ∧ J xs W'

theorem Gives.later {g : Nat} {lb : Array Value} {enc : α → Value} {S : List α → Prop} {N n₀ : Nat} {w w' : World} (h : Gives ty P g lb enc S N n₀ w) (hb : Below w.heap.size w w') : Gives ty P g lb enc S N n₀ w' :=
  fun m l J W hW hJ hY h0 => h m l J W (hb.trans (hW.mono hb.size)) hJ hY h0

/-- How a round's body ends: it goes on. -/
def goesOn (ty : TypeId) (n₀ : Nat) (I : World → Prop) (W : World) : Exit → Act → World → Prop
  | .normal, _, W' => Keeps ty W W' ∧ Below n₀ W W' ∧ I W'
  | _, _, _ => False

theorem over {n : Nat} {g : Operand} {p : Tmp} {assign body : Code} {Q : Exit → Act → World → Prop} {a : Act} {w : World} {gf : Nat} {lb : Array Value}
    (hg : a.eval g = .func (.func gf) #[] lb) (eg : ∀ args w, (callFunc gf args).run P w = .ok (.enter gf args) w)
    {enc : α → Value} {S : List α → Prop} {N n₀ : Nat} {w0 : World} (hseq : Gives ty P gf lb enc S N n₀ w0) (hb0 : Below w0.heap.size w0 w) (hn₀ : n₀ ≤ w.heap.size)
    (I : List α → World → Prop) (hI : OwnFrom w.heap.size I) (h0 : I [] w) (a₁ : α → Act)
    (hassign : ∀ (l : Nat) (x : α) (W : World) (K : Act → World → Prop), K (a₁ x) W →
      assign.wpIn (Fence.wide.inRound l) (n - 1 - 1) P (Exit.then K (fun _ _ _ => False)) { tmps := a.tmps.setIfInBounds p (enc x), defers := [] } W)
    (hbody : ∀ (l : Nat) (pre : List α) (x : α) (W : World), w.heap.size ≤ W.heap.size → I pre W → pre.length < N →
      body.wpIn (Fence.wide.inRound l) (n - 1 - 1) P (goesOn ty n₀ (I (pre ++ [x])) W) (a₁ x) W)
    (hdone : ∀ (D : Nat) (xs : List α) (W : World), w.heap.size ≤ D → S xs → I xs W → W.heap[D]? = some (.deferred (some [])) →
      Q .normal { a with defers := { target := .collected D, args := #[] } :: a.defers } W) :
    (Code.rangeFunc g #[p] assign body).wpIn Fence.wide n P Q a w := by
  refine wpIn_rangeFunc (fun fn hfn => ?_)
  let rec' : LoopState → Loop := fun st => { state := st, pending := none, fn, tmps := a.tmps, params := #[p], assign, body, defers := w.heap.size }
  obtain ⟨D, hD⟩ : ∃ D, w.heap.size = D := ⟨_, rfl⟩
  obtain ⟨w1, hw1⟩ : ∃ w1, (w.alloc (.deferred (some []))).alloc (.loop (rec' .ready)) = w1 := ⟨_, rfl⟩
  have hsz : w1.heap.size = D + 2 := by rw [← hw1, ← hD]; simp
  have hB1 : Below w.heap.size w w1 := by rw [← hw1]; exact ((Below.refl _ w).alloc (Nat.le_refl _) _).alloc (by simp) _
  have hloop : w1.heap[D + 1]? = some (.loop (rec' .ready)) := by
    have := World.alloc_heap_new (w.alloc (.deferred (some []))) (.loop (rec' .ready))
    rw [World.size_alloc, hw1, hD] at this; exact this
  have hdef : w1.heap[D]? = some (.deferred (some [])) := by
    rw [← hw1, ← hD]; exact (Below.heap_alloc _ _ _ (by simp)).trans (World.alloc_heap_new w _)
  have hI1 : I [] w1 := by rw [← hw1]; exact hI.alloc _ (hI.alloc _ h0)
  refine ⟨D + 1, [{ target := .collected D, args := #[] }], w1, { target := .fn (.func gf) lb, args := #[.func (.yield (D + 1)) #[] #[]] }, w1, gf, #[.func (.yield (D + 1)) #[] #[]] ++ lb, w1,
    ?_, ?_, fun _ _ => trivial, ?_, fun hh => absurd hh (by simp [Fence.wide]), ?_⟩
  · rw [← hw1, ← hD]; exact run_enterLoop_outer _ _ _ _ _
  · simp only [resolve, hg]; simp [go_sem]
  · simp [invoke, go_sem, eg]
  refine (hseq (n - 1) (D + 1) (fun pre W => I pre W ∧ W.heap[D + 1]? = some (.loop (rec' .ready)) ∧ W.heap[D]? = some (.deferred (some []))) w1 (hb0.trans (hB1.mono hb0.size)) ?_ ?_ ⟨hI1, hloop, hdef⟩).mono ?_
  · intro s A B row hs hgr hr
    have hne : ∀ k, k < D + 2 → some k ≠ row := fun k hk e => by have := (hr k e.symm).1; omega
    refine ⟨hI s A B row hs.1 hgr (fun r e => ⟨by have := (hr r e).1; omega, (hr r e).2⟩), ?_, ?_⟩
    · exact (hgr.block _ (Array.getElem?_eq_some_iff.1 hs.2.1).1 (hne _ (by omega))).trans hs.2.1
    · exact (hgr.block _ (Array.getElem?_eq_some_iff.1 hs.2.2).1 (hne _ (by omega))).trans hs.2.2
  · rintro pre x W ⟨hi, hl, hd⟩ hlen
    have hlt : D + 1 < W.heap.size := (Array.getElem?_eq_some_iff.1 hl).1
    have hy : (Instr.yield (D + 1) #[enc x]).run P W = .ok (.round (D + 1) fn (a.tmps.setIfInBounds p (enc x)) assign body) W := by
      simpa [rec'] using run_yield (P := P) (args := #[enc x]) hl rfl
    refine ⟨fn, _, assign, body, hy, roundIn_of_wpIn hfn ?_⟩
    refine hassign _ x W _ ?_
    refine ⟨_, run_beginRound hl rfl, ?_⟩
    obtain ⟨W2, hW2⟩ : ∃ W2, W.putObj (D + 1) (.loop { rec' .ready with state := .busy }) = W2 := ⟨_, rfl⟩
    have hi2 : I pre W2 := by rw [← hW2]; exact hI.putObj _ hi (by omega) hl rfl
    have hl2 : W2.heap[D + 1]? = some (.loop { rec' .ready with state := .busy }) := by rw [← hW2]; exact World.putObj_heap_same hlt
    have ho2 : ∀ k, k ≠ D + 1 → W2.heap[k]? = W.heap[k]? := fun k hk => by rw [← hW2]; exact World.putObj_heap_other hk
    have hb2 : Below n₀ W W2 := by rw [← hW2]; exact (Below.refl n₀ W).grown (grownBy_putObj' W _ _) (by omega) (fun k e => by cases e; omega)
    have hs2 : W2.heap.size = W.heap.size := by rw [← hW2]; simp
    show body.wpIn _ _ _ _ _ (W.putObj (D + 1) (.loop { rec' .ready with state := .busy }))
    rw [hW2]
    refine wpIn_mono (hbody _ pre x W2 (by omega) hi2 hlen) ?_
    rintro e a3 W3 hp
    cases e with
    | normal =>
      obtain ⟨hk3, hb3, hi3⟩ := hp
      have hl3 := hk3.same _ _ hl2 rfl
      have hlt3 : D + 1 < W3.heap.size := (Array.getElem?_eq_some_iff.1 hl3).1
      refine ⟨_, _, run_endRound none hl3, rfl, ⟨hI.putObj _ hi3 (by omega) hl3 rfl, World.putObj_heap_same hlt3, (World.putObj_heap_other (by omega)).trans (hk3.same _ _ ((ho2 D (by omega)).trans hd) rfl)⟩, ?_, ?_⟩
      · exact (hb2.trans hb3).grown (grownBy_putObj' W3 _ _) (by omega) (fun k e => by cases e; omega)
      · refine ⟨by have := hk3.size; simp; omega, fun k o hk ho => ?_⟩
        by_cases e : k = D + 1
        · subst e
          rw [hl] at hk; cases hk
          exact World.putObj_heap_same hlt3
        · exact (World.putObj_heap_other e).trans (hk3.same k o ((ho2 k e).trans hk) ho)
    | _ => exact hp.elim
  · rintro e W2 ⟨⟨v, rfl⟩, xs, hS, hi, hl, hd⟩
    exact ⟨none, _, run_endLoop hl (by simp [rec']), hdone D xs _ (by omega) hS (hI.putObj _ hi (by omega) hl rfl) ((World.putObj_heap_other (by omega)).trans hd)⟩
/-- A round within a round: the fence that asks nothing asks nothing there either. -/
theorem roundIn_wide {n n' l f : Nat} {tmps : Array Value} {assign body : Code} {w : World} {R : Ending → World → Prop} (h : RoundIn Fence.wide n P l f tmps assign body w R) (l2 : Nat) : RoundIn (Fence.wide.inRound l2) n' P l f tmps assign body w R :=
  ⟨trivial, fun c cs _ => h.2 c cs (room_wide _)⟩
theorem OwnFrom.mono {β : Type} {B B' : Nat} {I : β → World → Prop} (h : OwnFrom B I) (hb : B ≤ B') : OwnFrom B' I := fun s W W' row hs hg hr => h s W W' row hs hg (fun r e => ⟨Nat.le_trans hb (hr r e).1, (hr r e).2⟩)
end
end Go.Proofs.YtcllmkfaifalgaaDoor.T
