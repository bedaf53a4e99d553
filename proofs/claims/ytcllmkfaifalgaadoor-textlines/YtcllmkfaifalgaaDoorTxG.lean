/-
  eachTrimmed's iterator; Canon, Plain, Signed. Conditions: each as it says.
-/
import Derived.Test.YtcllmkfaifalgaaDoorTxF
namespace Go.Proofs.YtcllmkfaifalgaaDoor.T
open Go Go.RowKit
set_option linter.unusedVariables false
set_option maxRecDepth 100000
attribute [local go_sem] Oper.semAt_some wide_fn wide_fnR wide_dep wide_depR

theorem bel_drew {B : Nat} {w0 V : World} (h : Below B w0 V) : Below B w0 V.drew := ⟨h.os, h.tape, h.output, h.size, h.block⟩
set_option maxHeartbeats 4000000 in
theorem each1_gives (w0 w : World) (B gf : Nat) (lb : Array Value) (hc : w.cell? ⟨B, 0, none⟩ = some (.func (.func gf) #[] lb)) (eg : ∀ args w, (callFunc gf args).run Tryd.prog w = .ok (.enter gf args) w) (L : List (List Int)) (N : Nat) (hN : N ≤ 1001)
    (hG : Gives 28 Tryd.prog gf lb (fun x : Pc w0 => x.v) (fun ps => ps.map (·.l) = L) N w0.heap.size w) (hb0 : Below w0.heap.size w0 w) :
    Gives 28 Tryd.prog 31 #[.pointer (some ⟨B, 0, none⟩)] (fun x : Pc w0 => x.v) (fun ps => ps.map (·.l) = L.map trim) N w0.heap.size w := fun m l J W hW hJ hY h0 => by
  have hBw : B < w.heap.size := World.block_lt_of_cell? w _ hc
  have hcW : W.cell? ⟨B, 0, none⟩ = some (.func (.func gf) #[] lb) := (hW.cell (p := ⟨B, 0, none⟩) hBw).trans hc
  obtain ⟨Y, hYs⟩ : ∃ Y, W.heap.size = Y := ⟨_, rfl⟩
  refine callsIn_of_wp_marks Tryd.func31 rfl trivial ?_ rfl
  simp only [Tryd.ntmps31, List.size_toArray, List.length_cons, List.length_nil, Nat.reduceAdd, Nat.reduceSub, Array.replicate_succ, Array.replicate_zero, List.push_toArray, List.append_toArray, List.nil_append, List.cons_append]
  have hcW1 : (W.alloc (.cells #[.func (.yield l) #[] #[]] 28)).cell? ⟨B, 0, none⟩ = some (.func (.func gf) #[] lb) := cell_alloc hcW _
  have bY := Boxed.new W 28 (.func (.yield l) #[] #[])
  have hB1 : Below W.heap.size W (W.alloc (.cells #[.func (.yield l) #[] #[]] 28)) := (Below.refl _ W).alloc (Nat.le_refl _) _
  have hJ1 := hJ.alloc (.cells #[.func (.yield l) #[] #[]] 28) h0
  have hs1 : (W.alloc (.cells #[.func (.yield l) #[] #[]] 28)).heap.size = Y + 1 := by simp [hYs]
  gi_wp2
  have hG1 := hG.later (hW.trans (hB1.mono hW.size))
  have hb1 : Below w0.heap.size w0 (W.alloc (.cells #[.func (.yield l) #[] #[]] 28)) := hb0.trans ((hW.trans (hB1.mono hW.size)).mono hb0.size)
  rw [hYs] at hB1 bY hJ
  generalize W.alloc (.cells #[.func (.yield l) #[] #[]] 28) = W1 at *
  have hW0 : w0.heap.size ≤ Y := by rw [← hYs]; exact Nat.le_trans hb0.size hW.size
  refine over (n := m) (gf := gf) (lb := lb) rfl eg hG1 (Below.refl _ _) (by omega)
    (fun (pre : List (Pc w0)) V => (∃ pre' : List (Pc w0), pre'.map (·.l) = (pre.map (·.l)).map trim ∧ J pre' V) ∧ (Boxed V Y 28 (.func (.yield l) #[] #[]) ∧ Below w0.heap.size w0 V))
    ?own ⟨⟨[], rfl, hJ1⟩, bY, hb1⟩
    (fun x => { tmps := #[.func (.yield l) #[] #[], .pointer (some ⟨B, 0, none⟩), .pointer (some ⟨Y, 0, none⟩), x.v, .func (.func gf) #[] lb, x.v, undef, undef, undef, undef, undef], defers := [] })
    ?assign ?body ?done
  case own =>
    refine OwnFrom.and ?_ (OwnFrom.and (Own.from (boxed_own _ _ _) _) (ownFrom_below (Nat.le_refl _) (by omega)))
    rintro pre V V' row ⟨pre', h1, h2⟩ hg hr
    exact ⟨pre', h1, (OwnFrom.mono hJ (by omega)) _ _ _ row h2 hg hr⟩
  case assign =>
    intro l x W K hK
    gi_wp2
    exact hK
  case body =>
    rintro l2 pre x V hsV ⟨⟨pre', hpm, hJp⟩, bV, hbV⟩ hlt
    have hlt' : pre'.length < N := by
      have := congrArg List.length hpm
      simp only [List.length_map] at this
      omega
    have hxV : SlV V.drew x.v (U x.l) := x.sl.below (bel_drew hbV)
    have hcon := trimmed_any x.v x.l V.drew hxV x.byt
    have cY : V.drew.cell? ⟨Y, 0, none⟩ = some (.func (.yield l) #[] #[]) := bV.cell
    have hmx : Tryd.prog.follows .mixedOrders = true := by kernel_rfl
    have hml : (pre ++ [x]).map (·.l) = pre.map (·.l) ++ [x.l] := by simp
    rw [hml]
    obtain ⟨xv, xl, hxs, hxb, hxl'⟩ := x
    dsimp only at hxV hcon ⊢
    have HX := Away.mk hxs
    obtain ⟨xa, xc, rfl, hx1, hx2⟩ := hxV.shapeU rfl
    clear hml hxV
    gi_wp2
    gi_region_with_o (first
      | (gi_at_call 23; refine (CallsIn.inRound l2 (callsIn_wide.2 hcon)).mono ?_; rintro e w2 ⟨v2, rfl, hsub, hB2⟩
         have cY2 : w2.cell? ⟨Y, 0, none⟩ = some (.func (.yield l) #[] #[]) := (hB2.cell (p := ⟨Y, 0, none⟩) (World.block_lt_of_cell? _ _ cY)).trans cY
         obtain ⟨px, hpv, hpl⟩ : ∃ px : Pc w0, px.v = v2 ∧ px.l = trim xl := ⟨⟨v2, trim xl, hsub w0 HX.out, T.Byt.trim hxb, by have := trim_length xl; omega⟩, rfl, rfl⟩
         have hJ2 : J pre' w2 := hJ _ _ _ none hJp (grown_of_below (show Below V.heap.size V w2 from below_of_drew hB2) none) (fun _ e => by cases e)
         obtain ⟨fn, tmps, assign, body, hy, hR⟩ := hY pre' px w2 hJ2 hlt'
         rw [hpv] at hy)
      | (refine (roundIn_wide hR l2).mono ?_; rintro e w3 ⟨rfl, hJ3, hB3, hK3⟩))
    all_goals gi_wp2
    all_goals
      have hB4 := below_of_drew hB2
      have hB5 : Below w0.heap.size V w3 := (hB4.mono hbV.size).trans hB3
      have bV2 : Boxed w2 Y 28 (.func (.yield l) #[] #[]) := (hB4.block Y bV.lt).trans bV
      exact ⟨(Keeps.ofBelow hB4).trans hK3, hB5, ⟨⟨pre' ++ [px], by rw [List.map_append, List.map_append, hpm]; simp [hpl], hJ3⟩, hK3.same Y _ bV2 rfl, hbV.trans hB5⟩⟩
  case done =>
    rintro D ps V hD hps ⟨⟨pre', hpm, hJp⟩, bV, hbV⟩ hdef
    rw [hps] at hpm
    gi_wp2
    refine ⟨by simp, .inl ⟨_, _, rfl, run_takeDeferred hdef, ?_⟩⟩
    exact ⟨_, results_none rfl _ _ _, ⟨_, rfl⟩, pre', hpm, hJ.putObj _ hJp (by omega) hdef rfl⟩

/-- The strings that joined is called with. -/
theorem cells_crlf : Lib.strCells ⟨#[13, 10]⟩ = U [13, 10] := rfl
theorem cells_lf : Lib.strCells ⟨#[10]⟩ = U [10] := rfl
theorem eg_lines : ∀ args w, (callFunc 27 args).run Tryd.prog w = .ok (.enter 27 args) w := enters_of Tryd.func27 (by kernel_rfl) rfl
theorem eg_each : ∀ args w, (callFunc 31 args).run Tryd.prog w = .ok (.enter 31 args) w := enters_of Tryd.func31 (by kernel_rfl) rfl

theorem canon_any (v : Value) (xs : List Int) (w : World) (hS : SlV w v (U xs)) (hb : Byt xs) (hl : xs.length ≤ 1000) :
    Calls Tryd.prog 13 #[v] w fun e w' => ∃ v', e = .returned v' ∧ w'.ownsRow w.heap.size 5 1 v' (canon xs).length (U (canon xs)) ∧ Below w.heap.size w w' := by
  have hcon := linesOf_any w v xs hS
  have hA : Below w.heap.size w (w.alloc (.cells #[v] 22)) := (Below.refl _ w).alloc (Nat.le_refl _) _
  have hSA := hS.below hA
  have hG := lines1_gives _ (w.alloc (.cells #[v] 22)) w.heap.size v xs (Below.refl _ _) (by simp) hSA hb hl
  have hcon2 := joined_any _ _ _ _ eg_lines (lines xs) _ (by have := lines_few xs; omega) hG (Below.refl _ _) ⟨#[13, 10]⟩ [13, 10] cells_crlf (by simp)
  obtain ⟨a, cap, rfl, h1, h2⟩ := hS.shapeU rfl
  go_enter Tryd.func13, Tryd.ntmps13
  go_wp2_with (first
    | (go_at_call 21; refine hcon.mono ?_; rintro e w' ⟨rfl, rfl⟩)
    | (go_at_call 24; refine hcon2.mono ?_; rintro e w2 ⟨v2, rfl, ho, hB⟩))
  go_ret
  exact ⟨v2, rfl, own_base ho hA.size, hA.trans (hB.mono hA.size)⟩
theorem plain_any (v : Value) (xs : List Int) (w : World) (hS : SlV w v (U xs)) (hb : Byt xs) (hl : xs.length ≤ 1000) :
    Calls Tryd.prog 15 #[v] w fun e w' => ∃ v', e = .returned v' ∧ w'.ownsRow w.heap.size 5 1 v' (plain xs).length (U (plain xs)) ∧ Below w.heap.size w w' := by
  have hcon := linesOf_any w v xs hS
  have hA : Below w.heap.size w (w.alloc (.cells #[v] 22)) := (Below.refl _ w).alloc (Nat.le_refl _) _
  have hSA := hS.below hA
  have hG := lines1_gives _ (w.alloc (.cells #[v] 22)) w.heap.size v xs (Below.refl _ _) (by simp) hSA hb hl
  have hcon2 := joined_any _ _ _ _ eg_lines (lines xs) _ (by have := lines_few xs; omega) hG (Below.refl _ _) ⟨#[10]⟩ [10] cells_lf (by simp)
  obtain ⟨a, cap, rfl, h1, h2⟩ := hS.shapeU rfl
  go_enter Tryd.func15, Tryd.ntmps15
  go_wp2_with (first
    | (go_at_call 21; refine hcon.mono ?_; rintro e w' ⟨rfl, rfl⟩)
    | (go_at_call 24; refine hcon2.mono ?_; rintro e w2 ⟨v2, rfl, ho, hB⟩))
  go_ret
  exact ⟨v2, rfl, own_base ho hA.size, hA.trans (hB.mono hA.size)⟩
theorem signed_any (v : Value) (xs : List Int) (w : World) (hS : SlV w v (U xs)) (hb : Byt xs) (hl : xs.length ≤ 1000) :
    Calls Tryd.prog 17 #[v] w fun e w' => ∃ v', e = .returned v' ∧ w'.ownsRow w.heap.size 5 1 v' (signed xs).length (U (signed xs)) ∧ Below w.heap.size w w' := by
  have hcon := linesOf_any w v xs hS
  have hA : Below w.heap.size w (w.alloc (.cells #[v] 22)) := (Below.refl _ w).alloc (Nat.le_refl _) _
  have hSA := hS.below hA
  have hG := lines1_gives _ (w.alloc (.cells #[v] 22)) w.heap.size v xs (Below.refl _ _) (by simp) hSA hb hl
  have hcon1 := eachTrimmed_any (w.alloc (.cells #[v] 22)) 27 #[.pointer (some ⟨w.heap.size, 0, none⟩)]
  obtain ⟨w1, hw1⟩ : ∃ w1, w.alloc (.cells #[v] 22) = w1 := ⟨_, rfl⟩
  rw [hw1] at hA hSA hG hcon hcon1
  have hB1 : Below w1.heap.size w1 (w1.alloc (.cells #[.func (.func 27) #[] #[.pointer (some ⟨w.heap.size, 0, none⟩)]] 32)) := (Below.refl _ w1).alloc (Nat.le_refl _) _
  have hG2 := each1_gives w1 (w1.alloc (.cells #[.func (.func 27) #[] #[.pointer (some ⟨w.heap.size, 0, none⟩)]] 32)) w1.heap.size _ _ (by simp) eg_lines _ _ (by have := lines_few xs; omega) (hG.later hB1) hB1
  have hcon2 := joined_any _ _ _ _ eg_each ((lines xs).map trim) _ (by have := lines_few xs; omega) hG2 hB1 ⟨#[13, 10]⟩ [13, 10] cells_crlf (by simp)
  obtain ⟨a, cap, rfl, h1, h2⟩ := hS.shapeU rfl
  clear hG hG2 hw1
  go_enter Tryd.func17, Tryd.ntmps17
  go_wp2_with (first
    | (go_at_call 21; refine hcon.mono ?_; rintro e w' ⟨rfl, rfl⟩)
    | (go_at_call 26; refine hcon1.mono ?_; rintro e w' ⟨rfl, rfl⟩)
    | (go_at_call 24; refine hcon2.mono ?_; rintro e w2 ⟨v2, rfl, ho, hB⟩))
  go_ret
  have hA2 := hA.trans (hB1.mono hA.size)
  exact ⟨v2, rfl, own_base ho hA2.size, hA2.trans (hB.mono hA2.size)⟩
end Go.Proofs.YtcllmkfaifalgaaDoor.T
