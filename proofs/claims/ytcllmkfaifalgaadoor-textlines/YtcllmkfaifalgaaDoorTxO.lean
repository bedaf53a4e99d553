/-
  My own small kit for regions that draw their order and hold calls: what is held is 'as it was at the last call's end'. Over any program. No condition.
-/
import Derived.Test.YtcllmkfaifalgaaDoorTxN
import Derived.Deep.RegionHeld3
namespace Go.Proofs.YtcllmkfaifalgaaDoor.T
open Go Go.RowKit
set_option linter.unusedVariables false

section
variable {P : Program} {ops : Array Oper} {Q : Exit → Act → World → Prop} {md : Region.Mode}
theorem wpAnyH_imp {S S' : World → Prop} (hi : ∀ w, S' w → S w) : ∀ (fuel : Nat) (listed : Array Bool) (a : Act) (w : World), wpAnyH P md ops Q S' fuel listed a w → wpAnyH P md ops Q S fuel listed a w
  | 0, _, _, _, h => h
  | fuel + 1, _, _, _, h => ⟨h.1, fun i hr => wpOp_mono (fun a' w' h' => ⟨hi _ h'.1, wpAnyH_imp hi fuel _ a' w' h'.2⟩) (h.2 i hr)⟩
theorem wpAnyH_later {w wn : World} (hb : Below w.heap.size w wn) {fuel : Nat} {listed : Array Bool} {a : Act} (h : Below wn.heap.size wn wn → wpAnyH P md ops Q (fun w' => Below wn.heap.size wn w') fuel listed a wn) : wpAnyH P md ops Q (fun w' => Below w.heap.size w w') fuel listed a wn :=
  wpAnyH_imp (fun _ h => hb.trans (h.mono hb.size)) _ _ _ _ (h (Below.refl _ _))
theorem wp_region_below {id : Nat} {a : Act} {w : World} (hm : P.follows .mixedOrders = true) (h : Below w.drew.heap.size w.drew w.drew → wpAnyH P .any ops (NoPanic Q) (fun w' => Below w.drew.heap.size w.drew w') ops.size (Array.replicate ops.size false) a w.drew) : (Code.region id ops true).wp P Q a w :=
  wp_region_noPanic (wp_region_held_drew hm (Below.refl _ _) h)
end
theorem str_same {xs ys : List Int} (h : xs = ys) : Value.string (strOfNums xs) = .string (strOfNums ys) := by rw [h]
end Go.Proofs.YtcllmkfaifalgaaDoor.T
