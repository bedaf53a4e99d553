/-
  Pieces: what the law on pieces keeps from round to round; slices of bytes in a slice opened. Conditions: as each says.
-/
import Derived.Test.YtmbaenodibfedaaDoorHshP
import Derived.Deep.Matrix
import Derived.ProofKit
import Derived.OpenShut
namespace Go.Proofs.YtmbaenodibfedaaDoor.S9
open Go.RowKit
set_option linter.unusedVariables false
set_option maxRecDepth 10000

theorem Kp.ofGrown {w w' : World} {row : Option Nat} (hg : w.grownBy w' row) : Kp w.heap.size row w w' := ⟨hg.os, hg.tape, hg.output, hg.size, fun k hk _ h2 => hg.block k hk h2⟩
theorem HI.ne_own {w : World} {a : Int} {hp q : Nat} {v : Value} {bs : List Nat} (h : HI w a hp q v bs) {base n : Nat} {x : Value} {xs : List Value} (ho : w.ownsRow base 5 1 x n xs) : x.ownBlock ≠ some hp ∧ x.ownBlock ≠ some q := by
  obtain ⟨_, ⟨ha, hr, hk⟩ | ⟨ha, hr, hk⟩ | ⟨ha, hr, hk⟩⟩ := h
  · exact ⟨own_ne ho hr (by decide), own_ne ho hk.row (by decide)⟩
  · exact ⟨own_ne ho hr (by decide), own_ne ho hk.row (by decide)⟩
  · exact ⟨own_ne ho hr (by decide), own_ne ho hk.row (by decide)⟩
theorem turn_ne {a b : Option Nat} (h : a = none ∨ a ≠ b) : b = none ∨ b ≠ a := by
  by_cases hb : b = none
  · exact .inl hb
  · refine .inr (fun e => ?_)
    rcases h with h | h
    · exact hb (e.trans h)
    · exact h e.symm
theorem ne_of_lt {a b : Option Nat} {g : Nat} (ha : ∀ k, a = some k → g ≤ k) (hb : ∀ k, b = some k → k < g) : a = none ∨ a ≠ b := by
  cases a with
  | none => exact .inl rfl
  | some x =>
    refine .inr (fun e => ?_)
    have h1 := ha x rfl
    have h2 := hb x e.symm
    omega
/-- What the law keeps: the hash of what was written, the bytes themselves, apart. -/
structure PI (w wr : World) (a : Int) (hp q : Nat) (v av : Value) (bs : List Nat) : Prop where
  hi : HI wr a hp q v bs
  own : wr.ownsRow w.heap.size 5 1 av bs.length (C .u8 bs)
  bel : Below w.heap.size w wr
  hp0 : w.heap.size ≤ hp
  q0 : w.heap.size ≤ q
  v0 : ∀ k, v.ownBlock = some k → w.heap.size ≤ k
  ne : av.ownBlock = none ∨ av.ownBlock ≠ v.ownBlock
theorem PI.below {w wr w' : World} {a : Int} {hp q : Nat} {v av : Value} {bs : List Nat} (h : PI w wr a hp q v av bs) (hb : Below wr.heap.size wr w') : PI w w' a hp q v av bs :=
  ⟨h.hi.below hb, own_below h.own hb, h.bel.trans (hb.mono h.bel.size), h.hp0, h.q0, h.v0, h.ne⟩
/-- A copy and a row that are newer than what they were made of. -/
structure Sep (g : Nat) (hp q : Nat) (v av : Value) (hpc qc : Nat) (vc wv : Value) : Prop where
  h1 : hp < g
  h2 : q < g
  h3 : ∀ k, v.ownBlock = some k → k < g
  h4 : ∀ k, av.ownBlock = some k → k < g
  c1 : g ≤ hpc
  c2 : g ≤ qc
  c3 : ∀ k, vc.ownBlock = some k → g ≤ k
  c4 : ∀ k, wv.ownBlock = some k → g ≤ k
theorem after_append {w w3 w4 : World} {a : Int} {hp q hpc qc g b2 n2 : Nat} {v av vc wv : Value} {bs os : List Nat} {us : List Value} (hP : PI w w3 a hp q v av bs) (hC : HI w3 a hpc qc vc os) (hW : w3.ownsRow b2 5 1 wv n2 us) (hS : Sep g hp q v av hpc qc vc wv)
    (hg : w3.grownBy w4 av.ownBlock) : HI w4 a hp q v bs ∧ HI w4 a hpc qc vc os ∧ w4.ownsRow b2 5 1 wv n2 us ∧ Below w.heap.size w w4 := by
  obtain ⟨l1, l2, _, l3, _, _, _⟩ := hP.hi.lt
  obtain ⟨m1, m2, _, m3, _, _, _⟩ := hC.lt
  obtain ⟨n1, n2'⟩ := hP.hi.ne_own hP.own
  have hk := Kp.ofGrown hg
  refine ⟨hP.hi.kp hk (by omega) (fun e => n1 e.symm) (by omega) (fun e => n2' e.symm) (fun e => ?_) (turn_ne hP.ne), hC.kp hk (by omega) (fun e => ?_) (by omega) (fun e => ?_) (fun e => ?_) (ne_of_lt hS.c3 hS.h4), hW.kept hg (ne_of_lt hS.c4 hS.h4), hP.bel.grown hg hP.bel.size (fun k hk => (hP.own.lt k hk).1)⟩
  · have := (l3 _ e).2; omega
  · have := hS.h4 _ e.symm; have := hS.c1; omega
  · have := hS.h4 _ e.symm; have := hS.c2; omega
  · have := (m3 _ e).2; omega
theorem after_write {w w3 w4 w5 : World} {a : Int} {hp q hpc qc g b2 n2 : Nat} {v v' av av' vc wv : Value} {bs xs os : List Nat} {us : List Value} (hP : PI w w3 a hp q v av bs) (h4 : HI w4 a hp q v bs) (hC : HI w4 a hpc qc vc os) (hW : w4.ownsRow b2 5 1 wv n2 us) (hb4 : Below w.heap.size w w4) (hS : Sep g hp q v av hpc qc vc wv)
    (ho : w4.ownsRow w.heap.size 5 1 av' (bs ++ xs).length (C .u8 (bs ++ xs))) (hwh : av'.ownBlock = av.ownBlock ∨ av'.ownBlock = some w3.heap.size)
    (h5 : HI w5 a hp q v' (bs ++ xs)) (hk : Kp q v.ownBlock w4 w5) (hv : v'.ownBlock = v.ownBlock ∨ ∀ k, v'.ownBlock = some k → w4.heap.size ≤ k) :
    PI w w5 a hp q v' av' (bs ++ xs) ∧ HI w5 a hpc qc vc os ∧ w5.ownsRow b2 5 1 wv n2 us := by
  obtain ⟨_, _, _, l3, _, _, _⟩ := hP.hi.lt
  have hav : av'.ownBlock = none ∨ av'.ownBlock ≠ v.ownBlock := by
    rcases hwh with e | e
    · rw [e]; exact hP.ne
    · refine .inr (fun e2 => ?_)
      have := (l3 _ (e2.symm.trans e)).2
      omega
  obtain ⟨_, na⟩ := h4.ne_own ho
  obtain ⟨_, nw⟩ := h4.ne_own hW
  refine ⟨⟨h5, hk.own ho na hav, Kp.below hb4 hk hb4.size hP.q0 hP.v0, hP.hp0, hP.q0, fun k e => ?_, ?_⟩, hC.kp hk (fun e => ?_) (fun e => ?_) (fun e => ?_) (fun e => ?_) (fun e => ?_) (ne_of_lt hS.c3 hS.h3), hk.own hW nw (ne_of_lt hS.c4 hS.h3)⟩
  · rcases hv with h | h
    · exact hP.v0 k (h ▸ e)
    · exact Nat.le_trans hb4.size (h k e)
  · rcases hv with h | h
    · rw [h]; exact hav
    · exact turn_ne (ne_of_lt (g := w4.heap.size) h (fun k e => (ho.lt k e).2))
  · have := hS.c1; have := hS.h2; omega
  · have := hS.h3 _ e.symm; have := hS.c1; omega
  · have := hS.c2; have := hS.h2; omega
  · have := hS.h3 _ e.symm; have := hS.c2; omega
  · have := hS.c3 _ e; have := hS.h2; omega
/-- What the round's question reads. -/
structure Two (a : Int) (hp q : Nat) (v : Value) (hpc qc : Nat) (vc : Value) (bs os : List Nat) (want old : Value) (D1 D2 : List Nat) (w : World) : Prop where
  h : HI w a hp q v bs
  c : HI w a hpc qc vc os
  wn : SlV w want (C .u8 D1)
  od : SlV w old (C .u8 D2)
  t : Tabs w
theorem Two.below {a : Int} {hp q : Nat} {v : Value} {hpc qc : Nat} {vc : Value} {bs os : List Nat} {want old : Value} {D1 D2 : List Nat} {w w' : World} (h : Two a hp q v hpc qc vc bs os want old D1 D2 w) (hb : Below w.heap.size w w') : Two a hp q v hpc qc vc bs os want old D1 D2 w' :=
  ⟨h.h.below hb, h.c.below hb, h.wn.below hb, h.od.below hb, h.t.below hb⟩
theorem Two.drew {a : Int} {hp q : Nat} {v : Value} {hpc qc : Nat} {vc : Value} {bs os : List Nat} {want old : Value} {D1 D2 : List Nat} {w : World} (h : Two a hp q v hpc qc vc bs os want old D1 D2 w) : Two a hp q v hpc qc vc bs os want old D1 D2 w.drew := h.below ⟨rfl, rfl, rfl, Nat.le_refl _, fun _ _ => rfl⟩
/-- The pieces as the walk wants them. -/
theorem pieces_open {H : Type} {enc : TypeId × Value → H} {W : World} {a1 : Option Addr} {len1 cap1 : Nat} {d : DataW H} {p : List MemPlace}
    (h : DataW.Trod enc Tryd.prog W 0 (fun _ => true) true 30 (Value.slice a1 len1 cap1) d p) :
    len1 ≤ maxLen ∧ ∀ i, i < len1 → ∃ b off ua um uc xs, a1 = some ⟨b, off, none⟩ ∧ W.cell? ⟨b, off + i, none⟩ = some (.slice ua um uc) ∧ SlV W (.slice ua um uc) (C .u8 xs) ∧ xs.length = um ∧ Lo 256 xs := by
  obtain ⟨fuel, hf⟩ := h
  rcases Go.Deep.open_int_rows Tryd.underlying30 Tryd.underlying22 Tryd.underlying5 (by kernel_rfl) (by kernel_rfl) hf with ⟨hcs, _⟩ | ⟨a, l, c, A, L, Cp, Z, hcs, _, hl, hm, _, hel⟩
  · simp [Value.cells] at hcs
    obtain ⟨rfl, rfl, rfl⟩ := hcs
    exact ⟨Nat.zero_le _, fun i hi => absurd hi (Nat.not_lt_zero _)⟩
  · simp [Value.cells] at hcs
    obtain ⟨rfl, rfl, rfl⟩ := hcs
    refine ⟨by omega, fun i hi => ?_⟩
    obtain ⟨h1, h2, h3, h4, h5, h6, h7⟩ := hel i (by omega)
    obtain ⟨b, off, spot⟩ := a
    have hspot : spot = none := by simpa [Addr.add] using World.cell?_spot (hel 0 (by omega)).1
    subst hspot
    rw [Addr.add_lit] at h1
    have hrow : IsRow .u8 W (A i) (L i) (Cp i) (Z i) := by
      cases hA : A i with
      | none =>
        have hc0 := h6 hA
        exact .inl ⟨rfl, by omega, hc0, List.eq_nil_of_length_eq_zero (by omega)⟩
      | some x => exact .inr ⟨x, rfl, h2, h3, h4, fun j hj => (h7 x hA).2 j (by omega), h5⟩
    obtain ⟨xs, hs, hlen, hlo⟩ := hrow.bytes
    exact ⟨b, off, A i, L i, Cp i, xs, rfl, h1, hs, hlen, hlo⟩
end Go.Proofs.YtmbaenodibfedaaDoor.S9
