/-
  The iterator over a number's words from the highest down, and how many bits a word has, over this seat's translation. Conditions: each as it says.
-/
import Derived.Test.YtdpahahfcdldcaaDoorNatM
import Derived.Test.YtdpahahfcdldcaaDoorShelf4
import Derived.Test.YtdpahahfcdldcaaDoorRows
import Derived.RangeFuncNested
import Derived.RangeFuncBox
import Derived.RangeFuncBound
import Derived.RangeFuncCalls
import Derived.RangeFuncLeaves
import Derived.Shelf.Abstract
import Derived.Shelf.RegionOpen
import Derived.WalkKit
import Derived.OwnWalkIn
import Derived.TacticsInMore
import Derived.LoopNIn
import Derived.LoopIn
namespace Go.Proofs.YtdpahahfcdldcaaDoor
open Go.RowKit Go.Shelf
set_option linter.unusedVariables false
attribute [local go_sem] Oper.semAt_some

theorem bitLen_bl (x : Nat) (h : x < 4294967296) : Lib.bitLen x = bl x := by
  induction x using Nat.strongRecOn with
  | _ x ih =>
    by_cases h0 : x = 0
    · subst h0; rfl
    · rw [Lib.bitLen_half x h0 (by omega), bl_half h0, ih (x / 2) (by omega) (by omega), Nat.add_comm]
theorem len32_any (x : Nat) (hx : x < 4294967296) (w : World) :
    Calls Tryd.prog 68 #[.int .u32 (x : Int)] w fun e w' => e = .returned (.int .i64 (bl x : Nat)) ∧ w = w' := by
  refine (Tryd.bits_Len32 (x : Int) w (by omega) (by omega)).mono ?_
  rintro e w' ⟨rfl, rfl⟩
  rw [Int.toNat_natCast, bitLen_bl x hx]
  exact ⟨rfl, rfl⟩
theorem lz32_any (x : Nat) (hx : x < 4294967296) (w : World) :
    Calls Tryd.prog 65 #[.int .u32 (x : Int)] w fun e w' => e = .returned (.int .i64 ((32 - bl x : Nat) : Int)) ∧ w = w' := by
  refine (Tryd.bits_LeadingZeros32 (x : Int) w (by omega) (by omega)).mono ?_
  rintro e w' ⟨rfl, rfl⟩
  rw [Int.toNat_natCast, bitLen_bl x hx]
  have := (bl_le x 32).2 (by omega)
  exact ⟨by congr 2; omega, rfl⟩

/-- What the iterator hands over: a place, and the word there. -/
abbrev Al (n : Nat) (V : Nat → Nat → Prop) : Type := { p : Nat × Nat // p.1 < n ∧ p.2 < 4294967296 ∧ V p.1 p.2 }
/-- The places, from the highest down: the first k. -/
def desc (n k : Nat) : List Nat := (List.range k).map fun j => n - 1 - j
theorem desc_succ (n k : Nat) : desc n (k + 1) = desc n k ++ [n - 1 - k] := by simp [desc, List.range_succ]
theorem desc_length (n k : Nat) : (desc n k).length = k := by simp [desc]
/-- The places of what came. -/
def places {n : Nat} {V : Nat → Nat → Prop} (xs : List (Al n V)) : List Nat := xs.map fun x => x.1.1

theorem places_snoc {n : Nat} {V : Nat → Nat → Prop} (xs : List (Al n V)) (x : Al n V) : places (xs ++ [x]) = places xs ++ [x.1.1] := by unfold places; rw [List.map_append]; rfl

/-- What the iterator reads between two rounds. -/
def Seen (V : Nat → Nat → Prop) (Bs : Nat) (a : Option Addr) (n cap : Nat) (W : World) : Prop :=
  W.cell? ⟨Bs, 0, none⟩ = some (.slice a n cap) ∧ ∀ j, j < n → ∃ b off z, a = some ⟨b, off, none⟩ ∧ z < 4294967296 ∧ V j z ∧ W.cell? ⟨b, off + j, none⟩ = some (.int .u32 (z : Int))

set_option maxRecDepth 100000 in
set_option maxHeartbeats 2000000 in
theorem down1_stops (m Bs n cap : Nat) (a : Option Addr) (V : Nat → Nat → Prop) (hn : n ≤ maxLen) (w : World) (hw : ∀ W, Below w.heap.size w W → Seen V Bs a n cap W) :
    SeqStopsK Fence.wide m Tryd.prog 70 #[.pointer (some ⟨Bs, 0, none⟩)] (fun x : Al n V => #[Value.int .i64 (x.1.1 : Int), Value.int .u32 (x.1.2 : Int)]) (fun A B => Seen V Bs a n cap A → Seen V Bs a n cap B)
      (fun ys => places ys = desc n n) (fun pre => ∃ k, k ≤ n ∧ places pre = desc n k) n w := fun l J Jx W hW _ _ hY h0 => by
  have hs := hw W hW
  have hmx : (n : Int) ≤ 9223372036854775807 := by unfold maxLen at hn; omega
  clear hw hW
  have hc0 := hs.1
  refine callsIn_of_wp Tryd.func70 rfl trivial ?_ rfl
  simp only [Tryd.ntmps70, List.size_toArray, List.length_cons, List.length_nil, Nat.reduceAdd, Nat.reduceSub, Array.replicate_succ, Array.replicate_zero, List.push_toArray, List.append_toArray, List.nil_append, List.cons_append]
  gi_wp2
  clear hc0
  gi_loopw [3] (fun i wr => ∃ (k : Nat) (pre : List (Al n V)), k ≤ n ∧ i = .int .i64 ((n : Int) - 1 - k) ∧ places pre = desc n k ∧ J pre wr ∧ Seen V Bs a n cap wr) (fun i _ => (intOf i + 1).toNat)
  case atStart => exact ⟨0, [], Nat.zero_le _, by simp, rfl, h0, hs⟩
  case round =>
    obtain ⟨k, pre, hk, rfl, hp, hJ, hS⟩ := hrel
    by_cases hlt : k < n
    · obtain ⟨b, off, z, rfl, hz, hV, hcell⟩ := hS.2 (n - 1 - k) (by omega)
      have hc1 := hS.1
      have hpl : pre.length = k := by have := congrArg List.length hp; simpa [places, desc_length] using this
      obtain ⟨fn, tmps, assign, body, hy, hR⟩ := hY pre ⟨(n - 1 - k, z), by omega, hz, hV⟩ wr hJ (by omega)
      dsimp only at hy
      have e1 : ((n - 1 - k : Nat) : Int) = (n : Int) - 1 - k := by omega
      rw [e1] at hy
      obtain ⟨q, hq⟩ : ∃ q : Nat, q = n - 1 - k := ⟨_, rfl⟩
      have e2 : (n : Int) - 1 - k = (q : Int) := by omega
      rw [← hq] at hcell
      rw [e2] at hy ⊢
      have hqn : q < n := by omega
      have HQ := Away.mk hq
      clear e1 e2 hq
      gi_wp2
      refine ⟨fun h => by simp [Fence.wide] at h, hR.mono ?_⟩
      rintro e W3 (⟨rfl, hJ3, hk3⟩ | ⟨rfl, hJx3⟩)
      · have hS3 := hk3 hS
        gi_wp2
        have hq := HQ.out
        go_roundw
        case rel => exact ⟨k + 1, _, by omega, by congr 1; omega, by rw [desc_succ, places_snoc, hp], hJ3, hS3⟩
        case measure => simp [intOf]
      · gi_wp2
        refine bodyPost_ret (results_none rfl _ _ _) rfl ?_
        have hq := HQ.out
        exact ⟨⟨_, rfl⟩, .inr ⟨_, ⟨k + 1, by omega, by rw [desc_succ, places_snoc, hp]⟩, hJx3⟩⟩
    · obtain rfl : k = n := by omega
      have hc1 := hS.1
      have d1 : decide ((0 : Int) ≤ (k : Int) - 1 - k) = false := decide_eq_false (by omega)
      gi_wp2
      go_end0
      exact ⟨⟨_, rfl⟩, .inl ⟨_, hp, hJ⟩⟩

theorem down_any (a : Option Addr) (n cap : Nat) (w : World) :
    Calls Tryd.prog 61 #[.slice a n cap] w fun e w' => e = .returned (.func (.func 70) #[] #[.pointer (some ⟨w.heap.size, 0, none⟩)]) ∧ w' = w.alloc (.cells #[.slice a n cap] 44) := by
  have hmf : ∀ (fn : Fn) (first cap : Array Value) (w : World), (Instr.makeFunc fn first cap).run Tryd.prog w = .ok (.func fn first cap) w := fun _ _ _ _ => rfl
  go_enter Tryd.func61, Tryd.ntmps61
  go_wp2
  go_ret
  exact ⟨rfl, rfl⟩

/-- What stays in a turn of what is no cells. -/
theorem Seen.kept {V : Nat → Nat → Prop} {Bs : Nat} {a : Option Addr} {n cap : Nat} {A B : World} {row : Option Nat} (h : Seen V Bs a n cap A) (hg : A.grownBy B row) (hr : ∀ r, row = some r → ∃ o : Obj, A.heap[r]? = some o ∧ o.isCells = false) : Seen V Bs a n cap B :=
  ⟨cell_kept h.1 hg hr, fun j hj => by
    obtain ⟨b, off, z, e, hz, hV, hc⟩ := h.2 j hj
    exact ⟨b, off, z, e, hz, hV, cell_kept hc hg hr⟩⟩
theorem Seen.putObj {V : Nat → Nat → Prop} {Bs : Nat} {a : Option Addr} {n cap : Nat} {W : World} {l : Nat} {o : Obj} (o' : Obj) (h : Seen V Bs a n cap W) (hl : W.heap[l]? = some o) (ho : o.isCells = false) : Seen V Bs a n cap (W.putObj l o') :=
  h.kept (grownBy_putObj' W l o') (fun r e => by cases e; exact ⟨o, hl, ho⟩)
theorem Seen.below {V : Nat → Nat → Prop} {Bs : Nat} {a : Option Addr} {n cap B : Nat} {W W' : World} (h : Seen V Bs a n cap W) (hb : Below B W W') (h1 : Bs < B) (h2 : ∀ b off, 0 < n → a = some ⟨b, off, none⟩ → b < B) : Seen V Bs a n cap W' :=
  ⟨(hb.cell (p := ⟨Bs, 0, none⟩) h1).trans h.1, fun j hj => by
    obtain ⟨b, off, z, e, hz, hV, hc⟩ := h.2 j hj
    exact ⟨b, off, z, e, hz, hV, (hb.cell (p := ⟨b, off + j, none⟩) (h2 b off (by omega) e)).trans hc⟩⟩
/-- A slice of words that is read, and a box for it. -/
theorem Seen.of {w : World} {a : Option Addr} {n cap : Nat} {xs : List Nat} (h : SlV w (.slice a n cap) (C .u32 xs)) (hn : xs.length = n) (hl : Lo 4294967296 xs) :
    Seen (fun j z => z = xs.getD j 0) w.heap.size a n cap (w.alloc (.cells #[.slice a n cap] 44)) := by
  refine ⟨(Boxed.new w 44 (.slice a n cap)).cell, fun j hj => ?_⟩
  obtain ⟨b, off, rfl, hb, hc⟩ := h.cells (by rw [C_length]; omega)
  exact ⟨b, off, _, rfl, hl.getD (by decide) j, rfl, cell_alloc (hc j _ (C_get _ (by omega))) _⟩
end Go.Proofs.YtdpahahfcdldcaaDoor
