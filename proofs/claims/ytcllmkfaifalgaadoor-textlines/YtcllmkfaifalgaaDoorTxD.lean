/-
  What text.linesOf hands back: an iterator that gives a text's lines, pieces of the text itself. Conditions: at most 1000 bytes.
-/
import Derived.Test.YtcllmkfaifalgaaDoorTxB
import Derived.Test.YtcllmkfaifalgaaDoorTxC
import Derived.TacticsIn
import Derived.TacticsInMore
import Derived.BigFrameIn
import Derived.LoopIn
import Derived.Lib.SlBytesConst
import Derived.LoopNIn
import Derived.OwnWalkIn
import Derived.Shelf.RegionOpen
namespace Go.Proofs.YtcllmkfaifalgaaDoor.T
open Go Go.RowKit
set_option linter.unusedVariables false
set_option maxRecDepth 100000
theorem wide_fn (k : Nat) : Fence.wide.fn k ↔ True := Iff.rfl
theorem wide_fnR (l k : Nat) : (Fence.wide.inRound l).fn k ↔ True := Iff.rfl
theorem wide_dep (p : Prop) : (Fence.wide.depth.isSome = true → p) ↔ True := ⟨fun _ => trivial, fun _ h => absurd h (by simp [Fence.wide])⟩
theorem wide_depR (l : Nat) (p : Prop) : ((Fence.wide.inRound l).depth.isSome = true → p) ↔ True := ⟨fun _ => trivial, fun _ h => absurd h (by simp [Fence.wide, Fence.inRound])⟩
attribute [local go_sem] Oper.semAt_some wide_fn wide_fnR wide_dep wide_depR

/-- A piece of what lies in w: bytes, at most 1000. -/
structure Pc (w : World) where
  v : Value
  l : List Int
  sl : SlV w v (U l)
  byt : Byt l
  short : l.length ≤ 1000

theorem one_sep (w : World) (x : Int) : SlV (w.alloc (.cells #[.int .u8 x] 5 (1, 2))) (.slice (some ⟨w.heap.size, 0, none⟩) 1 1) (U [x]) := SlV_newF w (U [x]) 5 (1, 2) (by rw [U_length]; show 1 ≤ maxLen; decide)
theorem conv (w : World) (C : Array Value) (n c : Nat) : (convert 22 22 (.slice (some ⟨w.heap.size, 0, none⟩) n c)).run Tryd.prog (w.alloc (.cells C 5)) = .ok (.slice (some ⟨w.heap.size, 0, none⟩) n c) (w.alloc (.cells C 5 (C.size, C.size + 1))) :=
  Lib.run_convert_bytes_const (P := Tryd.prog) w 22 5 C n c Tryd.underlying22 Tryd.underlying5

set_option maxHeartbeats 4000000 in
theorem lines1_gives (w0 w : World) (B : Nat) (v : Value) (xs : List Int) (hb0 : Below w0.heap.size w0 w) (hc : w.cell? ⟨B, 0, none⟩ = some v) (hS : SlV w0 v (U xs)) (hb : Byt xs) (hl : xs.length ≤ 1000) :
    Gives 28 Tryd.prog 27 #[.pointer (some ⟨B, 0, none⟩)] (fun x : Pc w0 => x.v) (fun ps => ps.map (·.l) = lines xs) (lines xs).length w0.heap.size w := fun m l J W hW hJ hY h0 => by
  have hW0 : Below w0.heap.size w0 W := hb0.trans (hW.mono hb0.size)
  have hBw : B < w.heap.size := World.block_lt_of_cell? w _ hc
  have hcW : W.cell? ⟨B, 0, none⟩ = some v := (hW.cell (p := ⟨B, 0, none⟩) hBw).trans hc
  have hAl : ∀ pre (V : World) o, J pre V → J pre (V.alloc o) := fun pre V o h => hJ.alloc o h
  have hDr : ∀ pre (V : World) q, J pre V → J pre (V.drewN q) := fun pre V q h => hJ pre V (V.drewN q) none h ⟨rfl, rfl, rfl, Nat.le_refl _, fun _ _ _ => rfl⟩ (fun r e => by cases e)
  clear hJ
  refine callsIn_of_wp Tryd.func27 rfl trivial ?_ rfl
  simp only [Tryd.ntmps27, List.size_toArray, List.length_cons, List.length_nil, Nat.reduceAdd, Nat.reduceSub, Array.replicate_succ, Array.replicate_zero, List.push_toArray, List.append_toArray, List.nil_append, List.cons_append]
  gi_wp2
  gi_loopw [3, 4] (fun r e wr => ∃ pre : List (Pc w0), J pre wr ∧ Below w0.heap.size w0 wr ∧ ((e = .bool true ∧ ∃ ys, SlV w0 r (U ys) ∧ Byt ys ∧ ys.length ≤ 1000 ∧ pre.map (·.l) ++ lines ys = lines xs) ∨ (e = .bool false ∧ pre.map (·.l) = lines xs)))
    (fun r e _ => match e with | .bool true => lenS r + 1 | _ => 0)
  case atStart => exact ⟨[], h0, hW0, .inl ⟨rfl, xs, hS, hb, hl, rfl⟩⟩
  case round =>
    obtain ⟨pre, hJp, hBw', (⟨rfl, ys, hY1, hby, hly, heq⟩ | ⟨rfl, heq⟩)⟩ := hrel
    · have hlen : pre.length < (lines xs).length := by
        rw [← heq, List.length_append, List.length_map]
        have := List.length_pos_iff.2 (lines_ne ys)
        omega
      have hBA : Below w0.heap.size w0 (wr.alloc (.cells #[.int .u8 10] 5 (1, 2))) := hBw'.alloc hBw'.size _
      have hYA := hY1.below hBA
      have hsep := one_sep wr 10
      obtain ⟨n, hn⟩ : ∃ n, ys.length = n := ⟨_, rfl⟩
      have hY1' := Away.mk hY1
      obtain ⟨a, cap, rfl, h1, h2⟩ := hY1.shapeU hn
      cases hi : at10 ys with
      | none =>
        have hcon := cut_none _ _ ys _ hYA hby hsep hi
        rw [lines_none hi] at heq
        obtain ⟨fn, tmps, assign, body, hy, hR⟩ := hY pre ⟨_, ys, hY1'.out, hby, hly⟩ _ (hAl _ _ (.cells #[.int .u8 10] 5 (1, 2)) hJp) hlen
        dsimp only at hy hR
        have HQ := Away.mk heq
        have hcv := conv
        clear hY1 hYA hsep heq hi hY h0 hcW
        gi_wp2_with (gi_at_call 28; refine (callsIn_wide.2 hcon).mono ?_; rintro e w' ⟨rfl, rfl⟩)
        refine hR.mono ?_
        rintro e W3 ⟨rfl, hJ3, hk3, ho3⟩
        gi_wp2
        go_roundw
        case rel => exact ⟨_, hJ3, hBA.trans hk3, .inr ⟨rfl, by rw [List.map_append]; exact HQ.out⟩⟩
        case measure => simp
      | some i =>
        have hlt := (at10_some hi).1
        have hcon := cut_some _ _ ys _ hYA hby hsep i hi
        rw [lines_some hi] at heq
        have HQ := Away.mk heq
        have hcv := conv
        have hJA := hAl _ _ (.cells #[.int .u8 10] 5 (1, 2)) hJp
        have hm30 : (ys.drop (i + 1)).length < n := by rw [List.length_drop]; omega
        clear hY1 hYA hsep heq hi h0 hcW
        gi_wp2_with fail
        refine (callsIn_wide.2 hcon).mono ?_
        rintro e w2 ⟨v1, v2, rfl, hv1, hv2, q, hq⟩
        have hB2 : Below w0.heap.size w0 w2 := by rw [hq]; exact below_drewN hBA q
        have hJ2 : J pre w2 := by rw [hq]; exact hDr _ _ q hJA
        clear hq hJA hBA hcon
        have hb1 : Byt (ys.take i) := hby.take i
        have hsep2 := one_sep w2 13
        have hBC : Below w0.heap.size w0 (w2.alloc (.cells #[.int .u8 13] 5 (1, 2))) := hB2.alloc hB2.size _
        have hcon2 := trimSuffix_any v1 _ (ys.take i) _ ((hv1 w0 hY1'.out).below hBC) hb1 hsep2
        have hJC := hAl _ _ (.cells #[.int .u8 13] 5 (1, 2)) hJ2
        have hl1 : (ys.take i).length ≤ 1000 := by rw [List.length_take]; omega
        have hV1 := Away.mk (hv1 w0 hY1'.out)
        have hV2 := Away.mk (hv2 w0 hY1'.out)
        clear hsep2 hv1 hv2
        gi_wp2_with fail
        refine (callsIn_wide.2 hcon2).mono ?_
        rintro e w3 ⟨v3, rfl, hv3, rfl⟩
        obtain ⟨px, hpv, hpl⟩ : ∃ px : Pc w0, px.v = v3 ∧ px.l = strip (ys.take i) := ⟨⟨v3, strip (ys.take i), hv3 w0 hV1.out, T.Byt.strip hb1, by have := strip_length (ys.take i); omega⟩, rfl, rfl⟩
        obtain ⟨fn, tmps, assign, body, hy, hR⟩ := hY pre px _ hJC hlen
        rw [hpv] at hy
        clear hv3 hcon2 hJC hJ2 hY hpv
        have hpl := Away.mk hpl
        obtain ⟨w3, hw3⟩ : ∃ w3, w2.alloc (.cells #[.int .u8 13] 5 (1, 2)) = w3 := ⟨_, rfl⟩
        rw [hw3] at hy hR hBC ⊢
        gi_wp2_with fail
        refine hR.mono ?_
        rintro e W3 ⟨rfl, hJ3, hk3, ho3⟩
        gi_wp2
        go_roundw
        case rel => exact ⟨_, hJ3, hBC.trans hk3, .inl ⟨rfl, ys.drop (i + 1), hV2.out, hby.drop _, by omega, by rw [List.map_append]; simpa [hpl.out] using HQ.out⟩⟩
        case measure =>
          obtain ⟨a2, c2, rfl, _, _⟩ := hV2.out.shapeU rfl
          simp [lenS]; omega
    · gi_wp2
      go_end0
      exact ⟨⟨_, rfl⟩, pre, heq, hJp⟩
end Go.Proofs.YtcllmkfaifalgaaDoor.T
