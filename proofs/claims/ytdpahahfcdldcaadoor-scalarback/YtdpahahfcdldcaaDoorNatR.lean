/-
  A loop over a number's words from the highest down, whatever its body does: one law, over this seat's translation. Conditions: as it says.
-/
import Derived.Test.YtdpahahfcdldcaaDoorNatD
namespace Go.Proofs.YtdpahahfcdldcaaDoor
open Go.RowKit Go.Shelf
set_option linter.unusedVariables false

theorem range_down {g : Operand} {ps : Array Tmp} {assign body : Code} {Q : Exit → Act → World → Prop} {a : Act} {w : World} (w0 : World) (Bs n cap : Nat) (ad : Option Addr) (V : Nat → Nat → Prop) (hn : n ≤ maxLen)
    (hg : a.eval g = .func (.func 70) #[] #[.pointer (some ⟨Bs, 0, none⟩)]) (hps : ps.size = 2) (hb0 : Below w0.heap.size w0 w) (hseen : ∀ W, Below w.heap.size w W → Seen V Bs ad n cap W)
    (I Ix : List (Al n V) → World → Prop) (hI : Own I) (hIx : Own Ix) (h0 : I [] w) (a₁ : Nat → Nat → Act)
    (hassign : ∀ (l i z : Nat) (W : World) (K : Act → World → Prop), K (a₁ i z) W →
      assign.wpIn (Fence.wide.inRound l) 1 Tryd.prog (Exit.then K (fun _ _ _ => False)) { tmps := (ps.zip #[Value.int .i64 (i : Int), Value.int .u32 (z : Int)]).foldl (fun t (p, v) => t.setIfInBounds p v) a.tmps, defers := [] } W)
    (hbody : ∀ (l : Nat) (pre : List (Al n V)) (x : Al n V) (i z : Nat) (W : World) (R : Exit → Act → World → Prop), Away (x.1.1 = i ∧ x.1.2 = z) → i < n → z < 4294967296 → Away (V i z) → I pre W → Below w0.heap.size w0 W →
      Away (∀ a' W', KeepsOthers W W' → (Seen V Bs ad n cap W → Seen V Bs ad n cap W') → I (pre ++ [x]) W' → Below w0.heap.size w0 W' → R .normal a' W') →
      Away (∀ a' W', KeepsOthers W W' → Ix (pre ++ [x]) W' → Below w0.heap.size w0 W' → R .ret a' W') → body.wpIn (Fence.wide.inRound l) 1 Tryd.prog R (a₁ i z) W)
    (hdone : ∀ (D : Nat) (xs : List (Al n V)) (W : World), w.heap.size ≤ D → places xs = desc n n → I xs W → Below w0.heap.size w0 W → W.heap[D]? = some (.deferred (some [])) → Q .normal { a with defers := { target := .collected D, args := #[] } :: a.defers } W)
    (hstop : ∀ (D k : Nat) (pre : List (Al n V)) (W : World), w.heap.size ≤ D → k ≤ n → places pre = desc n k → Ix pre W → Below w0.heap.size w0 W → W.heap[D]? = some (.deferred (some [])) → Code.ret.wp Tryd.prog Q { a with defers := { target := .collected D, args := #[] } :: a.defers } W) :
    (Code.rangeFunc g ps assign body).wp Tryd.prog Q a w := by
  refine (wpIn_wide (n := 3)).1 ?_
  refine wpIn_rangeFunc_ownF (α := Al n V) (Kp := fun A B => Seen V Bs ad n cap A → Seen V Bs ad n cap B) rfl (by decide) hg trivial (enters_of Tryd.func70 (by kernel_rfl) rfl)
    (down1_stops 2 Bs n cap ad V hn w hseen) (fun h k hs => k (h hs)) (fun W l o o' _ hl ho _ hs => hs.putObj o' hl ho) (Below.refl _ _) (fun _ => hps.symm)
    (fun pre W => I pre W ∧ Below w0.heap.size w0 W)
    (fun c pre W => (c = .ret ∧ Ix pre W) ∧ Below w0.heap.size w0 W)
    (OwnFrom.and (hI.from _) (ownFrom_below (Nat.le_refl _) hb0.size))
    (fun c => OwnFrom.and (Own.from (fun s A B row hs hg hr => ⟨hs.1, hIx s A B row hs.2 hg hr⟩) _) (ownFrom_below (Nat.le_refl _) hb0.size))
    ⟨h0, hb0⟩ (fun x => a₁ x.1.1 x.1.2) (fun l x => hassign l x.1.1 x.1.2) ?body (fun D xs W hD hS hi hK => hdone D xs W hD hS hi.1 hi.2 hK) ?stop
  case body =>
    rintro l pre x W ⟨hi, hb⟩ _
    exact hbody l pre x _ _ W _ ⟨rfl, rfl⟩ x.2.1 x.2.2.1 ⟨x.2.2.2⟩ hi hb ⟨fun a' W' h1 h2 h3 h4 => ⟨h1, h2, h3, h4⟩⟩ ⟨fun a' W' h1 h2 h3 => ⟨h1, ⟨rfl, h2⟩, h3⟩⟩
  case stop =>
    rintro D c pre W hD ⟨k, hk, hp⟩ ⟨⟨rfl, hx⟩, hb⟩ hK
    exact wpIn_wide.2 (hstop D k pre W hD hk hp hx hb hK)
/-- What lies behind the call, the block of the deferred calls shut. -/
theorem below_shut {w0 w W : World} {D : Nat} (hB : Below w0.heap.size w0 W) (hD : w0.heap.size ≤ D) (hK : W.heap[D]? = some (.deferred (some []))) : Below w0.heap.size w0 (W.putObj D (.deferred none)) :=
  hB.trans (belowK_b (w := w0) (Nat.le_refl _) W D _ _ hD hK rfl rfl)
end Go.Proofs.YtdpahahfcdldcaaDoor
