/-
  text.Lines: a text's lines, each in memory of its own. Conditions: at most 1000 bytes.
-/
import Derived.Test.YtcllmkfaifalgaaDoorTxG
namespace Go.Proofs.YtcllmkfaifalgaaDoor.T
open Go Go.RowKit
set_option linter.unusedVariables false
set_option maxRecDepth 100000
attribute [local go_sem] Oper.semAt_some wide_fn wide_fnR wide_dep wide_depR

/-- Slices of the call's own, one for each list of bytes. -/
def Ls (w : World) (E : Nat) : List Value → List (List Int) → Prop
  | [], [] => True
  | u :: vs, l :: ls => w.ownsRow E 5 1 u l.length (U l) ∧ Ls w E vs ls
  | _, _ => False
theorem Ls.length {w : World} {E : Nat} : ∀ {vs : List Value} {ls : List (List Int)}, Ls w E vs ls → vs.length = ls.length
  | [], [], _ => rfl
  | _ :: _, _ :: _, h => by simp [Ls.length h.2]
  | [], _ :: _, h => h.elim
  | _ :: _, [], h => h.elim
theorem Ls.get {w : World} {E : Nat} : ∀ {vs : List Value} {ls : List (List Int)}, Ls w E vs ls → ∀ (i : Nat) (hi : i < ls.length), ∃ u, vs[i]? = some u ∧ w.ownsRow E 5 1 u ls[i].length (U ls[i])
  | u :: vs, l :: ls, h, 0, _ => ⟨u, rfl, h.1⟩
  | u :: vs, l :: ls, h, i + 1, hi => by
    obtain ⟨x, hx, ho⟩ := Ls.get h.2 i (by simpa using hi)
    exact ⟨x, by simpa using hx, by simpa using ho⟩
  | [], [], _, _, hi => by simp at hi
  | [], _ :: _, h, _, _ => h.elim
  | _ :: _, [], h, _, _ => h.elim
theorem Ls.snoc {w : World} {E : Nat} {u : Value} {l : List Int} (hu : w.ownsRow E 5 1 u l.length (U l)) : ∀ {vs : List Value} {ls : List (List Int)}, Ls w E vs ls → Ls w E (vs ++ [u]) (ls ++ [l])
  | [], [], _ => ⟨hu, trivial⟩
  | _ :: _, _ :: _, h => ⟨h.1, Ls.snoc hu h.2⟩
  | [], _ :: _, h => h.elim
  | _ :: _, [], h => h.elim
theorem Ls.imp {w w' : World} {E : Nat} (hi : ∀ u l, w.ownsRow E 5 1 u (List.length l) (U l) → w'.ownsRow E 5 1 u l.length (U l)) : ∀ {vs : List Value} {ls : List (List Int)}, Ls w E vs ls → Ls w' E vs ls
  | [], [], _ => trivial
  | _ :: _, _ :: _, h => ⟨hi _ _ h.1, Ls.imp hi h.2⟩
  | [], _ :: _, h => h.elim
  | _ :: _, [], h => h.elim
/-- A row of bytes lies on where a block of another type is turned. -/
theorem own_other {w w' : World} {E : Nat} {e e' : TypeId} {u : Value} {n : Nat} {xs : List Value} (h : w.ownsRow E e 1 u n xs) {row : Option Nat} (hg : w.grownBy w' row) (hr : ∀ g, row = some g → ∀ o, w.heap[g]? = some o → o.isCells = false ∨ ∃ cs fr, o = .cells cs e' fr) (hne : e ≠ e') : w'.ownsRow E e 1 u n xs := by
  refine h.kept hg ?_
  rcases h.2 with ⟨rfl, _⟩ | ⟨g, cap, cur, rfl, _, hgb, _⟩
  · exact .inl rfl
  · refine .inr fun e1 => ?_
    rcases hr g (by simpa [Value.ownBlock] using e1.symm) _ hgb with h1 | ⟨cs, fr, h1⟩
    · cases h1
    · cases h1; exact hne rfl

/-- What Lines keeps in its box. -/
structure LW (W0 : World) (E : Nat) (ls : List (List Int)) (W : World) : Prop where
  bo : ∃ v vs, Boxed W E 24 v ∧ W.ownsRow E 22 1 v ls.length vs ∧ Ls W E vs ls
  bel : Below E W0 W
  lt : E = W0.heap.size

theorem lines_end {w V w3 w4 : World} {E n : Nat} {ls : List (List Int)} {l : List Int} {vs : List Value} {v u v4 : Value} (hL : LW w E ls V) (hnn : ls.length = n) (hv : Boxed V E 24 v) (ho : V.ownsRow E 22 1 v n vs) (hls : Ls V E vs ls) (hE : E ≤ V.heap.size)
    (hB2 : Below V.heap.size V w3) (ho1 : w3.ownsRow V.heap.size 5 1 u l.length (U l)) (hon4 : (w3.alloc (.cells #[u] 22)).ownsRow E 22 1 v n vs) (hg4 : (w3.alloc (.cells #[u] 22)).grownBy w4 v.ownBlock)
    (ho4 : w4.ownsRow E 22 1 v4 (n + 1) (vs ++ [u])) (hv4 : Boxed w4 E 24 v) :
    Keeps 28 V (w4.setCell ⟨E, 0, none⟩ v4) ∧ Below E V (w4.setCell ⟨E, 0, none⟩ v4) ∧ LW w E (ls ++ [l]) (w4.setCell ⟨E, 0, none⟩ v4) := by
  have hB5 : Below w3.heap.size w3 (w3.alloc (.cells #[u] 22)) := (Below.refl w3.heap.size w3).alloc (Nat.le_refl _) _
  have hB6 : Below V.heap.size V (w3.alloc (.cells #[u] 22)) := hB2.trans (hB5.mono hB2.size)
  have hlo : ∀ k, v.ownBlock = some k → E ≤ k := fun k hk => (hon4.lt k hk).1
  have hB7 : Below E V (w4.setCell ⟨E, 0, none⟩ v4) := ((hB6.mono hE).grown hg4 (Nat.le_trans hE hB6.size) hlo).setCell (p := ⟨E, 0, none⟩) (Nat.le_refl _) v4
  refine ⟨((Keeps.ofBelow hB6).trans (keepsOwnRow hon4 hg4 (by decide))).trans (keepsBox hv4 _ (by decide)), hB7, ⟨v4, vs ++ [u], hv4.set v4, ?_, ?_⟩, hL.bel.trans hB7, hL.lt⟩
  · rw [List.length_append, hnn]
    exact ho4.kept (grownBy_setCell' w4 E v4) (.inr (hv4.not_row (by decide) ho4).symm)
  · have hstep : ∀ x k, (w3.alloc (.cells #[u] 22)).ownsRow E 5 1 x (List.length k) (U k) → (w4.setCell ⟨E, 0, none⟩ v4).ownsRow E 5 1 x k.length (U k) := fun x k hx => by
      have h4 : w4.ownsRow E 5 1 x k.length (U k) := own_other hx hg4 (e' := 22) (fun g hg o hog => by
        rcases hon4.2 with ⟨rfl, _⟩ | ⟨g', cap, cur, rfl, _, hgb, _⟩
        · simp [Value.ownBlock] at hg
        · obtain rfl : g' = g := by simpa [Value.ownBlock] using hg
          rw [hgb] at hog; cases hog; exact .inr ⟨_, _, rfl⟩) (by decide)
      exact own_other h4 (grownBy_setCell' w4 E v4) (e' := 24) (fun g hg o hog => by
        cases hg
        rw [show w4.heap[E]? = _ from hv4] at hog; cases hog; exact .inr ⟨_, _, rfl⟩) (by decide)
    exact Ls.snoc (hstep _ _ (own_below (own_base ho1 hE) hB5)) (Ls.imp (fun x k hx => hstep _ _ (own_below hx hB6)) hls)
theorem LW.own {W0 : World} {E : Nat} {α : Type} (ls : α → List (List Int)) (B : Nat) (hB : E ≤ B) : OwnFrom B (fun (x : α) W => LW W0 E (ls x) W) := by
  intro x W W' row h hg hr
  obtain ⟨v, vs, hv, ho, hl⟩ := h.bo
  have hcells : ∀ g, row = some g → ∀ o, W.heap[g]? = some o → o.isCells = false ∨ ∃ cs fr, o = .cells cs (0 : TypeId) fr := fun g hg o ho => by
    obtain ⟨_, o', ho', hno⟩ := hr g hg
    rw [ho'] at ho; cases ho; exact .inl hno
  have hE : E ≤ W.heap.size := by rw [h.lt]; exact h.bel.size
  refine ⟨⟨v, vs, hv.kept hg (fun e => ?_), own_other ho hg hcells (by decide), Ls.imp (fun x k hx => own_other hx hg hcells (by decide)) hl⟩, h.bel.grown hg (by rw [h.lt]; exact h.bel.size) (fun k hk => Nat.le_trans hB (hr k hk).1), h.lt⟩
  obtain ⟨_, o, ho', hno⟩ := hr E e.symm
  rw [show W.heap[E]? = _ from hv] at ho'; cases ho'; cases hno

set_option maxHeartbeats 4000000 in
theorem lines_any (v : Value) (xs : List Int) (w : World) (hS : SlV w v (U xs)) (hb : Byt xs) (hl : xs.length ≤ 1000) :
    Calls Tryd.prog 8 #[v] w fun e w' => ∃ v' vs, e = .returned v' ∧ w'.ownsRow w.heap.size 22 1 v' (lines xs).length vs ∧ Ls w' w.heap.size vs (lines xs) ∧ Below w.heap.size w w' := by
  refine (callsIn_wide (n := 9)).1 ?_
  refine callsIn_of_wp_marks Tryd.func8 rfl trivial ?_ rfl
  simp only [Tryd.ntmps8, List.size_toArray, List.length_cons, List.length_nil, Nat.reduceAdd, Nat.reduceSub, Array.replicate_succ, Array.replicate_zero, List.push_toArray, List.append_toArray, List.nil_append, List.cons_append]
  have hA : Below w.heap.size w (w.alloc (.cells #[.slice none 0 0] 24)) := (Below.refl _ w).alloc (Nat.le_refl _) _
  have hSA := hS.below hA
  obtain ⟨E, hE⟩ : ∃ E, w.heap.size = E := ⟨_, rfl⟩
  have bo : Boxed (w.alloc (.cells #[.slice none 0 0] 24)) w.heap.size 24 (.slice none 0 0) := Boxed.new w _ _
  rw [hE] at bo hA
  obtain ⟨w1, hw1⟩ : ∃ w1, w.alloc (.cells #[.slice none 0 0] 24) = w1 := ⟨_, rfl⟩
  have hs1 : w1.heap.size = E + 1 := by rw [← hw1]; simp [hE]
  have hS' := Away.mk hS
  obtain ⟨a, cap, rfl, h1, h2⟩ := hS.shapeU rfl
  have hcon := linesOf_any w1 _ xs (hw1 ▸ hSA)
  rw [hw1] at hSA bo hA
  have hB1 : Below w1.heap.size w1 (w1.alloc (.cells #[.slice a xs.length cap] 22)) := (Below.refl _ w1).alloc (Nat.le_refl _) _
  have hA2 := hA.trans (hB1.mono (by omega))
  have hG := lines1_gives w (w1.alloc (.cells #[.slice a xs.length cap] 22)) w1.heap.size (.slice a xs.length cap) xs (by rw [hE]; exact hA2) (by simp) hS'.out hb hl
  have hL0 : LW w E [] (w1.alloc (.cells #[.slice a xs.length cap] 22)) := ⟨⟨_, [], bo.alloc _, World.ownsRow_nil _ _ _ _, trivial⟩, hA2, hE.symm⟩
  have hs2 : (w1.alloc (.cells #[.slice a xs.length cap] 22)).heap.size = E + 2 := by simp [hs1]
  gi_wp2_with (gi_at_call 21; refine (callsIn_wide.2 hcon).mono ?_; rintro e w' ⟨rfl, rfl⟩)
  have hs11 : w1.heap.size = E + 1 := hs1
  rw [hs11] at hG
  generalize w1.alloc (.cells #[.slice a xs.length cap] 22) = w2 at *
  have hn := lines_few xs
  clear hcon bo hSA
  refine over (n := 9) (gf := 27) (lb := #[.pointer (some ⟨E + 1, 0, none⟩)]) rfl eg_lines hG (Below.refl _ _) (by omega)
    (fun (pre : List (Pc w)) V => LW w E (pre.map (·.l)) V)
    ?own hL0
    (fun x => { tmps := #[.slice a xs.length cap, undef, .slice none 0 0, .pointer (some ⟨E, 0, none⟩), x.v, .slice a xs.length cap, .func (.func 27) #[] #[.pointer (some ⟨E + 1, 0, none⟩)], x.v, undef, undef, undef, undef, undef, undef], defers := [] })
    ?assign ?body ?done
  case own => exact LW.own _ _ (by omega)
  case assign =>
    intro l x W K hK
    gi_wp2
    exact hK
  case body =>
    rintro l2 pre x V hsV hL hlt
    have hml : (pre ++ [x]).map (·.l) = pre.map (·.l) ++ [x.l] := by simp
    rw [hml]
    have hpl : (pre.map (·.l)).length ≤ 1001 := by rw [List.length_map]; omega
    have hEV : E ≤ V.heap.size := by omega
    have hxV : SlV V.drew x.v (U x.l) := x.sl.below (bel_drew (by rw [hE]; exact hL.bel))
    have hcon := clone_any x.v x.l V.drew hxV (by have := x.short; omega)
    have hmx : Tryd.prog.follows .mixedOrders = true := by kernel_rfl
    obtain ⟨xv, xl, hxs, hxb, hxl'⟩ := x
    dsimp only at hxV hcon ⊢
    obtain ⟨v, vs, hv, ho, hls⟩ := hL.bo
    have hvl := ho.1
    obtain ⟨n, hnn⟩ : ∃ n, (pre.map (·.l)).length = n := ⟨_, rfl⟩
    rw [hnn] at ho hvl hpl
    rw [Nat.mul_one] at hvl
    obtain ⟨va, vc, rfl, q1, q2⟩ := (SlV.ofOwn ho).shape
    rw [hvl] at q1 hv ho
    have hvl' := Away.mk hvl
    have cO : V.drew.cell? ⟨E, 0, none⟩ = some (.slice va n vc) := hv.cell
    obtain ⟨xa, xc, rfl, hx1, hx2⟩ := hxV.shapeU rfl
    clear hml hxV
    gi_wp2
    refine wpIn_region_any hmx ?_
    change wpAnyIn _ _ _ _ _ _ _ _ _ (World.drew _)
    refine wpAnyIn_ready (rs := [0, 1]) (by kernel_rfl) (by simp) ?_
    refine AllReadyIn.cons rfl (fun K hK => ?_) ?_
    · go_simp
      refine hK _ _ ?_
      clear hK K
      refine wpAnyIn_ready (rs := [1]) (by kernel_rfl) (by simp) ?_
      refine AllReadyIn.cons rfl (fun K hK => ?_) ?_
      · go_simp
        refine hK _ _ ?_
        clear hK K
        refine wpAnyIn_ready (rs := [2]) (by kernel_rfl) (by simp) ?_
        refine AllReadyIn.cons rfl (fun K hK => ?_) ?_
        · go_simp
          gi_wp2_with (gi_at_call 22; refine (CallsIn.inRound l2 (callsIn_wide.2 hcon)).mono ?_; rintro e w3 ⟨v1, rfl, ho1, hB1⟩)
          try (refine hK _ _ ?_)
          try clear hK K
          have cO3 : w3.cell? ⟨E, 0, none⟩ = some (.slice va n vc) := (hB1.cell (p := ⟨E, 0, none⟩) (World.block_lt_of_cell? _ _ cO)).trans cO
          have hB2 := below_of_drew hB1
          have hon := own_below ho hB2
          obtain ⟨a1, c1, rfl, q3, q4⟩ := (SlV.ofOwn ho1).shapeU rfl
          have hw3 : E ≤ w3.heap.size := Nat.le_trans hEV hB2.size
          have hone := SlV_one w3 (.slice a1 xl.length c1) 22
          have hB5 : Below w3.heap.size w3 (w3.alloc (.cells #[.slice a1 xl.length c1] 22)) := (Below.refl w3.heap.size w3).alloc (Nat.le_refl _) _
          have cO5 : (w3.alloc (.cells #[.slice a1 xl.length c1] 22)).cell? ⟨E, 0, none⟩ = some (.slice va n vc) := cell_alloc cO3 _
          have hon4 := own_below hon hB5
          obtain ⟨v4, w4, hrun, ho4, hg4⟩ := run_append_sl (P := Tryd.prog) 24 24 E 22 _ 24 Tryd.underlying24 inf22 rfl _ n vs hon4 _ _ hone (by simp [Value.oneCell']) (by unfold maxLen; simp; omega) (by simp; omega) (by simp; omega)
          replace ho4 : w4.ownsRow E 22 1 v4 (n + 1) (vs ++ [.slice a1 xl.length c1]) := ho4
          have hv3 : Boxed w3 E 24 (.slice va n vc) := (hB2.block E hv.lt).trans hv
          have hv5 := hv3.alloc (.cells #[.slice a1 xl.length c1] 22)
          have hv4 : Boxed w4 E 24 (.slice va n vc) := hv5.kept hg4 (hv5.not_row (by decide) hon4)
          obtain ⟨a4, c4, e4, q5, q6⟩ := (SlV.ofOwn ho4).shape
          rw [show (vs ++ [Value.slice a1 xl.length c1]).length = n + 1 by simp [hvl]] at e4 q5
          subst e4
          have cO4 := hv4.cell
          have fO4 := hv4.frozen
          have HRUN := Away.mk hrun
          clear hrun
          refine wpAnyIn_ready (rs := [3]) (by kernel_rfl) (by simp) ?_
          refine AllReadyIn.cons rfl (fun K hK => ?_) ?_
          · go_simp
            refine hK _ _ ?_
            clear hK K
            refine wpAnyIn_ready (rs := [4]) (by kernel_rfl) (by simp) ?_
            refine AllReadyIn.cons rfl (fun K hK => ?_) ?_
            · rw [if_pos (by kernel_rfl)]
              refine wpIn_append_run (.tmp 8) (.tmp 11) 24 24 rfl HRUN.out (hK _ _ ?_)
              clear hK K
              refine wpAnyIn_ready (rs := [5]) (by kernel_rfl) (by simp) ?_
              refine AllReadyIn.cons rfl (fun K hK => ?_) ?_
              · go_simp
                refine hK _ _ ?_
                clear hK K
                refine wpAnyIn_done (by kernel_rfl) ?_ _
                gi_wp2
                obtain ⟨z1, z2, z3⟩ := lines_end hL hnn hv ho hls hEV hB2 ho1 hon4 hg4 ho4 hv4
                exact ⟨z1, by rw [hE]; exact z2, z3⟩
              exact AllReadyIn.nil
            exact AllReadyIn.nil
          exact AllReadyIn.nil
        exact AllReadyIn.nil
      exact AllReadyIn.nil
    refine AllReadyIn.cons rfl (fun K hK => ?_) ?_
    · go_simp
      refine hK _ _ ?_
      clear hK K
      refine wpAnyIn_ready (rs := [0, 2]) (by kernel_rfl) (by simp) ?_
      refine AllReadyIn.cons rfl (fun K hK => ?_) ?_
      · go_simp
        refine hK _ _ ?_
        clear hK K
        refine wpAnyIn_ready (rs := [2]) (by kernel_rfl) (by simp) ?_
        refine AllReadyIn.cons rfl (fun K hK => ?_) ?_
        · go_simp
          gi_wp2_with (gi_at_call 22; refine (CallsIn.inRound l2 (callsIn_wide.2 hcon)).mono ?_; rintro e w3 ⟨v1, rfl, ho1, hB1⟩)
          try (refine hK _ _ ?_)
          try clear hK K
          have cO3 : w3.cell? ⟨E, 0, none⟩ = some (.slice va n vc) := (hB1.cell (p := ⟨E, 0, none⟩) (World.block_lt_of_cell? _ _ cO)).trans cO
          have hB2 := below_of_drew hB1
          have hon := own_below ho hB2
          obtain ⟨a1, c1, rfl, q3, q4⟩ := (SlV.ofOwn ho1).shapeU rfl
          have hw3 : E ≤ w3.heap.size := Nat.le_trans hEV hB2.size
          have hone := SlV_one w3 (.slice a1 xl.length c1) 22
          have hB5 : Below w3.heap.size w3 (w3.alloc (.cells #[.slice a1 xl.length c1] 22)) := (Below.refl w3.heap.size w3).alloc (Nat.le_refl _) _
          have cO5 : (w3.alloc (.cells #[.slice a1 xl.length c1] 22)).cell? ⟨E, 0, none⟩ = some (.slice va n vc) := cell_alloc cO3 _
          have hon4 := own_below hon hB5
          obtain ⟨v4, w4, hrun, ho4, hg4⟩ := run_append_sl (P := Tryd.prog) 24 24 E 22 _ 24 Tryd.underlying24 inf22 rfl _ n vs hon4 _ _ hone (by simp [Value.oneCell']) (by unfold maxLen; simp; omega) (by simp; omega) (by simp; omega)
          replace ho4 : w4.ownsRow E 22 1 v4 (n + 1) (vs ++ [.slice a1 xl.length c1]) := ho4
          have hv3 : Boxed w3 E 24 (.slice va n vc) := (hB2.block E hv.lt).trans hv
          have hv5 := hv3.alloc (.cells #[.slice a1 xl.length c1] 22)
          have hv4 : Boxed w4 E 24 (.slice va n vc) := hv5.kept hg4 (hv5.not_row (by decide) hon4)
          obtain ⟨a4, c4, e4, q5, q6⟩ := (SlV.ofOwn ho4).shape
          rw [show (vs ++ [Value.slice a1 xl.length c1]).length = n + 1 by simp [hvl]] at e4 q5
          subst e4
          have cO4 := hv4.cell
          have fO4 := hv4.frozen
          have HRUN := Away.mk hrun
          clear hrun
          refine wpAnyIn_ready (rs := [3]) (by kernel_rfl) (by simp) ?_
          refine AllReadyIn.cons rfl (fun K hK => ?_) ?_
          · go_simp
            refine hK _ _ ?_
            clear hK K
            refine wpAnyIn_ready (rs := [4]) (by kernel_rfl) (by simp) ?_
            refine AllReadyIn.cons rfl (fun K hK => ?_) ?_
            · rw [if_pos (by kernel_rfl)]
              refine wpIn_append_run (.tmp 8) (.tmp 11) 24 24 rfl HRUN.out (hK _ _ ?_)
              clear hK K
              refine wpAnyIn_ready (rs := [5]) (by kernel_rfl) (by simp) ?_
              refine AllReadyIn.cons rfl (fun K hK => ?_) ?_
              · go_simp
                refine hK _ _ ?_
                clear hK K
                refine wpAnyIn_done (by kernel_rfl) ?_ _
                gi_wp2
                obtain ⟨z1, z2, z3⟩ := lines_end hL hnn hv ho hls hEV hB2 ho1 hon4 hg4 ho4 hv4
                exact ⟨z1, by rw [hE]; exact z2, z3⟩
              exact AllReadyIn.nil
            exact AllReadyIn.nil
          exact AllReadyIn.nil
        exact AllReadyIn.nil
      refine AllReadyIn.cons rfl (fun K hK => ?_) ?_
      · go_simp
        gi_wp2_with (gi_at_call 22; refine (CallsIn.inRound l2 (callsIn_wide.2 hcon)).mono ?_; rintro e w3 ⟨v1, rfl, ho1, hB1⟩)
        try (refine hK _ _ ?_)
        try clear hK K
        have cO3 : w3.cell? ⟨E, 0, none⟩ = some (.slice va n vc) := (hB1.cell (p := ⟨E, 0, none⟩) (World.block_lt_of_cell? _ _ cO)).trans cO
        have hB2 := below_of_drew hB1
        have hon := own_below ho hB2
        obtain ⟨a1, c1, rfl, q3, q4⟩ := (SlV.ofOwn ho1).shapeU rfl
        have hw3 : E ≤ w3.heap.size := Nat.le_trans hEV hB2.size
        have hone := SlV_one w3 (.slice a1 xl.length c1) 22
        have hB5 : Below w3.heap.size w3 (w3.alloc (.cells #[.slice a1 xl.length c1] 22)) := (Below.refl w3.heap.size w3).alloc (Nat.le_refl _) _
        have cO5 : (w3.alloc (.cells #[.slice a1 xl.length c1] 22)).cell? ⟨E, 0, none⟩ = some (.slice va n vc) := cell_alloc cO3 _
        have hon4 := own_below hon hB5
        obtain ⟨v4, w4, hrun, ho4, hg4⟩ := run_append_sl (P := Tryd.prog) 24 24 E 22 _ 24 Tryd.underlying24 inf22 rfl _ n vs hon4 _ _ hone (by simp [Value.oneCell']) (by unfold maxLen; simp; omega) (by simp; omega) (by simp; omega)
        replace ho4 : w4.ownsRow E 22 1 v4 (n + 1) (vs ++ [.slice a1 xl.length c1]) := ho4
        have hv3 : Boxed w3 E 24 (.slice va n vc) := (hB2.block E hv.lt).trans hv
        have hv5 := hv3.alloc (.cells #[.slice a1 xl.length c1] 22)
        have hv4 : Boxed w4 E 24 (.slice va n vc) := hv5.kept hg4 (hv5.not_row (by decide) hon4)
        obtain ⟨a4, c4, e4, q5, q6⟩ := (SlV.ofOwn ho4).shape
        rw [show (vs ++ [Value.slice a1 xl.length c1]).length = n + 1 by simp [hvl]] at e4 q5
        subst e4
        have cO4 := hv4.cell
        have fO4 := hv4.frozen
        have HRUN := Away.mk hrun
        clear hrun
        refine wpAnyIn_ready (rs := [0, 3]) (by kernel_rfl) (by simp) ?_
        refine AllReadyIn.cons rfl (fun K hK => ?_) ?_
        · go_simp
          refine hK _ _ ?_
          clear hK K
          refine wpAnyIn_ready (rs := [3]) (by kernel_rfl) (by simp) ?_
          refine AllReadyIn.cons rfl (fun K hK => ?_) ?_
          · go_simp
            refine hK _ _ ?_
            clear hK K
            refine wpAnyIn_ready (rs := [4]) (by kernel_rfl) (by simp) ?_
            refine AllReadyIn.cons rfl (fun K hK => ?_) ?_
            · rw [if_pos (by kernel_rfl)]
              refine wpIn_append_run (.tmp 8) (.tmp 11) 24 24 rfl HRUN.out (hK _ _ ?_)
              clear hK K
              refine wpAnyIn_ready (rs := [5]) (by kernel_rfl) (by simp) ?_
              refine AllReadyIn.cons rfl (fun K hK => ?_) ?_
              · go_simp
                refine hK _ _ ?_
                clear hK K
                refine wpAnyIn_done (by kernel_rfl) ?_ _
                gi_wp2
                obtain ⟨z1, z2, z3⟩ := lines_end hL hnn hv ho hls hEV hB2 ho1 hon4 hg4 ho4 hv4
                exact ⟨z1, by rw [hE]; exact z2, z3⟩
              exact AllReadyIn.nil
            exact AllReadyIn.nil
          exact AllReadyIn.nil
        refine AllReadyIn.cons rfl (fun K hK => ?_) ?_
        · go_simp
          refine hK _ _ ?_
          clear hK K
          refine wpAnyIn_ready (rs := [0]) (by kernel_rfl) (by simp) ?_
          refine AllReadyIn.cons rfl (fun K hK => ?_) ?_
          · go_simp
            refine hK _ _ ?_
            clear hK K
            refine wpAnyIn_ready (rs := [4]) (by kernel_rfl) (by simp) ?_
            refine AllReadyIn.cons rfl (fun K hK => ?_) ?_
            · rw [if_pos (by kernel_rfl)]
              refine wpIn_append_run (.tmp 8) (.tmp 11) 24 24 rfl HRUN.out (hK _ _ ?_)
              clear hK K
              refine wpAnyIn_ready (rs := [5]) (by kernel_rfl) (by simp) ?_
              refine AllReadyIn.cons rfl (fun K hK => ?_) ?_
              · go_simp
                refine hK _ _ ?_
                clear hK K
                refine wpAnyIn_done (by kernel_rfl) ?_ _
                gi_wp2
                obtain ⟨z1, z2, z3⟩ := lines_end hL hnn hv ho hls hEV hB2 ho1 hon4 hg4 ho4 hv4
                exact ⟨z1, by rw [hE]; exact z2, z3⟩
              exact AllReadyIn.nil
            exact AllReadyIn.nil
          exact AllReadyIn.nil
        exact AllReadyIn.nil
      exact AllReadyIn.nil
    exact AllReadyIn.nil
  case done =>
    rintro D ps V hD hps hL hdef
    rw [hps] at hL
    obtain ⟨v, vs, hv, ho, hls⟩ := hL.bo
    obtain ⟨n, hnn⟩ : ∃ n, (lines xs).length = n := ⟨_, rfl⟩
    have hvl := ho.1
    rw [hnn] at ho hvl
    rw [Nat.mul_one] at hvl
    obtain ⟨va, vc, rfl, q1, q2⟩ := (SlV.ofOwn ho).shape
    rw [hvl] at q1 hv ho
    have HVL := Away.mk hvl
    have cO := hv.cell
    clear hvl
    gi_wp2
    refine ⟨by simp, .inl ⟨_, _, rfl, run_takeDeferred hdef, ?_⟩⟩
    have hDD : V.grownBy (V.putObj D (.deferred none)) (some D) := grownBy_putObj' V D _
    refine ⟨_, results_tmp rfl _ _ _, _, vs, rfl, ?_, ?_, ?_⟩
    · rw [hE, hnn]
      exact ownsRow_putObj ho _ hdef rfl
    · rw [hE]
      exact Ls.imp (fun x k hx => ownsRow_putObj hx _ hdef rfl) hls
    · rw [hE]; exact hL.bel.trans (belowK_b (w := w) (n₀ := E) (by omega) V D _ _ (by omega) hdef rfl rfl)
end Go.Proofs.YtcllmkfaifalgaaDoor.T
