/-
  linesOf, eachTrimmed, joined over this seat's translation. Conditions: each as it says.
-/
import Derived.Test.YtcllmkfaifalgaaDoorTxE
namespace Go.Proofs.YtcllmkfaifalgaaDoor.T
open Go Go.RowKit
set_option linter.unusedVariables false
set_option maxRecDepth 100000
attribute [local go_sem] Oper.semAt_some wide_fn wide_fnR wide_dep wide_depR

theorem linesOf_any (w : World) (v : Value) (xs : List Int) (hS : SlV w v (U xs)) :
    Calls Tryd.prog 21 #[v] w fun e w' => e = .returned (.func (.func 27) #[] #[.pointer (some ⟨w.heap.size, 0, none⟩)]) ∧ w' = w.alloc (.cells #[v] 22) := by
  obtain ⟨a, cap, rfl, h1, h2⟩ := hS.shapeU rfl
  have hmf : ∀ (fn : Fn) (first cap : Array Value) (w : World), (Instr.makeFunc fn first cap).run Tryd.prog w = .ok (.func fn first cap) w := fun _ _ _ _ => rfl
  go_enter Tryd.func21, Tryd.ntmps21
  go_wp2
  go_ret
  exact ⟨rfl, rfl⟩
theorem eachTrimmed_any (w : World) (gf : Nat) (lb : Array Value) :
    Calls Tryd.prog 26 #[.func (.func gf) #[] lb] w fun e w' => e = .returned (.func (.func 31) #[] #[.pointer (some ⟨w.heap.size, 0, none⟩)]) ∧ w' = w.alloc (.cells #[.func (.func gf) #[] lb] 32) := by
  have hmf : ∀ (fn : Fn) (first cap : Array Value) (w : World), (Instr.makeFunc fn first cap).run Tryd.prog w = .ok (.func fn first cap) w := fun _ _ _ _ => rfl
  go_enter Tryd.func26, Tryd.ntmps26
  go_wp2
  go_ret
  exact ⟨rfl, rfl⟩

theorem pc_bound {w : World} (es : List Int) (pre : List (Pc w)) (N : Nat) (hN : N ≤ 1001) (hp : pre.length < N) (he : es.length ≤ 2) : (jn es (pre.map (·.l))).length ≤ 1003002 := by
  have := jn_length es 1000 (pre.map (·.l)) (fun l hl => by obtain ⟨x, _, rfl⟩ := List.mem_map.1 hl; exact x.short)
  rw [List.length_map] at this
  have h2 : pre.length * (1000 + es.length) ≤ 1001 * 1002 := Nat.mul_le_mul (by omega) (by omega)
  omega

set_option maxHeartbeats 4000000 in
theorem joined_any (w w0 : World) (gf : Nat) (lb : Array Value) (eg : ∀ args w, (callFunc gf args).run Tryd.prog w = .ok (.enter gf args) w) (L : List (List Int)) (N : Nat) (hN : N ≤ 1001)
    (hG : Gives 28 Tryd.prog gf lb (fun x : Pc w0 => x.v) (fun ps => ps.map (·.l) = L) N w0.heap.size w) (hb0 : Below w0.heap.size w0 w) (s : ByteArray) (es : List Int) (hes : Lib.strCells s = U es) (hel : es.length ≤ 2) :
    Calls Tryd.prog 24 #[.func (.func gf) #[] lb, .string s] w fun e w' => ∃ v, e = .returned v ∧ w'.ownsRow w.heap.size 5 1 v (jn es L).length (U (jn es L)) ∧ Below w.heap.size w w' := by
  refine (callsIn_wide (n := 9)).1 ?_
  refine callsIn_of_wp_marks Tryd.func24 rfl trivial ?_ rfl
  simp only [Tryd.ntmps24, List.size_toArray, List.length_cons, List.length_nil, Nat.reduceAdd, Nat.reduceSub, Array.replicate_succ, Array.replicate_zero, List.push_toArray, List.append_toArray, List.nil_append, List.cons_append]
  gi_wp2
  obtain ⟨E, hE⟩ : ∃ E, w.heap.size = E := ⟨_, rfl⟩
  have h00 : w0.heap.size ≤ E := by rw [← hE]; exact hb0.size
  have hBel : Below E w (((w.alloc (.cells #[.string s] 9)).alloc (.cells #[.slice none 0 0] 22)).alloc (.cells #[.bool true] 4)) := by
    rw [← hE]; exact (((Below.refl _ w).alloc (Nat.le_refl _) _).alloc (by simp) _).alloc (by simp; omega) _
  have hJ0 : JW w E s true [] (((w.alloc (.cells #[.string s] 9)).alloc (.cells #[.slice none 0 0] 22)).alloc (.cells #[.bool true] 4)) := by
    refine ⟨?_, ⟨.slice none 0 0, ?_, World.ownsRow_nil _ _ _ _⟩, ?_, hBel, hE.symm⟩
    · rw [← hE]; exact ((Boxed.new w _ _).alloc _).alloc _
    · have := (Boxed.new (w.alloc (.cells #[.string s] 9)) 22 (.slice none 0 0)).alloc (.cells #[.bool true] 4)
      rw [World.size_alloc, hE] at this; exact this
    · have := Boxed.new ((w.alloc (.cells #[.string s] 9)).alloc (.cells #[.slice none 0 0] 22)) 4 (.bool true)
      rw [World.size_alloc, World.size_alloc, hE] at this; exact this
  have hsz : (((w.alloc (.cells #[.string s] 9)).alloc (.cells #[.slice none 0 0] 22)).alloc (.cells #[.bool true] 4)).heap.size = E + 3 := by simp [hE]
  rw [hE]
  have hG1 := hG.later (show Below w.heap.size w _ by rw [hE]; exact hBel)
  generalize ((w.alloc (.cells #[.string s] 9)).alloc (.cells #[.slice none 0 0] 22)).alloc (.cells #[.bool true] 4) = w1 at *
  have hb1 : Below w0.heap.size w0 w1 := hb0.trans (hBel.mono h00)
  refine over (n := 9) (gf := gf) (lb := lb) rfl eg hG1 (Below.refl _ _) (by omega)
    (fun (pre : List (Pc w0)) W => JW w E s (decide (pre = [])) (jn es (pre.map (·.l))) W)
    (JW.own _ _ _ (by omega)) hJ0
    (fun x => { tmps := #[.func (.func gf) #[] lb, .string s, undef, .pointer (some ⟨E, 0, none⟩), .slice none 0 0, .pointer (some ⟨E + 1, 0, none⟩), .pointer (some ⟨E + 1 + 1, 0, none⟩), x.v, .func (.func gf) #[] lb, x.v, undef, undef, undef, undef, undef, undef, undef, undef, undef], defers := [] })
    ?assign ?body ?done
  case assign =>
    intro l x W K hK
    gi_wp2
    exact hK
  case body =>
    intro l pre x W hsW hJ hlt
    have hxW : SlV W x.v (U x.l) := x.sl.below (hb0.trans (hJ.bel.mono h00))
    have hxl := x.short
    have hjl := pc_bound es pre N hN hlt hel
    have hEW : E ≤ W.heap.size := by omega
    have hsn : jn es ((pre ++ [x]).map (·.l)) = if pre = [] then x.l else jn es (pre.map (·.l)) ++ es ++ x.l := by
      rw [List.map_append, List.map_cons, List.map_nil, jn_snoc]; simp
    have hne : decide (pre ++ [x] = []) = false := by simp
    have hbs0 : pre = [] → jn es (pre.map (·.l)) = [] := fun h => by rw [h]; rfl
    generalize jn es (pre.map (·.l)) = bs at *
    rw [hsn, hne]
    replace hbs0 := Away.mk hbs0
    obtain ⟨xv, xl, hxs, hxb, hxl'⟩ := x
    dsimp only at hxW hxl ⊢
    obtain ⟨v, hv, ho⟩ := hJ.bo
    obtain ⟨va, vc, rfl, hv1, hv2⟩ := (SlV.ofOwn ho).shapeU rfl
    have cF : W.cell? ⟨E + 1 + 1, 0, none⟩ = some (.bool (decide (pre = []))) := hJ.bf.cell
    have cO := hv.cell
    have cE := hJ.be.cell
    have hxW' := Away.mk hxW
    obtain ⟨xa, xc, rfl, hx1, hx2⟩ := hxW.shapeU rfl
    clear hxW
    by_cases hp : pre = []
    · rw [decide_eq_true hp] at cF hJ
      rw [if_pos hp]
      gi_wp2_with (refine wpListIn_append_sl rfl (.tmp 15) (.tmp 16) 22 rfl E 5 _ 1 Tryd.underlying22 inf8 rfl _ _ _ rfl ho _ _ rfl hxW'.out (U_one _) (by rw [U_length]; unfold maxLen; omega) (by rw [U_length]; omega) hEW ?_)
      intro v1 w2 ho2 hg2
      obtain ⟨b2, hJ2, hk2, hB2, ho3⟩ := hJ.append hv ho ho2 hg2
      obtain ⟨M, hM⟩ : ∃ M, (bs ++ xl).length = M := ⟨_, rfl⟩
      obtain ⟨a1, c1, rfl, _, _⟩ := (SlV.ofOwn ho3).shapeU hM
      have cO2 := b2.cell; have fO2 := b2.frozen
      clear ho2 hg2 b2 hv ho hJ ho3 cO cF hsn hne
      have cF2 : (w2.setCell ⟨E + 1, 0, none⟩ (.slice a1 M c1)).cell? ⟨E + 1 + 1, 0, none⟩ = some (.bool true) := hJ2.bf.cell
      have fF2 : (w2.setCell ⟨E + 1, 0, none⟩ (.slice a1 M c1)).frozen? ⟨E + 1 + 1, 0, none⟩ = false := hJ2.bf.frozen
      obtain ⟨hJ3, hk3, hB3⟩ := hJ2.begun
      gi_wp2
      rw [hbs0.out hp] at hJ3
      exact ⟨hk2.trans hk3, (hB2.trans hB3).mono h00, hJ3⟩
    · rw [decide_eq_false hp] at cF hJ
      rw [if_neg hp]
      gi_wp2_with (refine wpListIn_append_str rfl (.tmp 12) (.tmp 13) 22 9 rfl E 5 Tryd.underlying22 Tryd.underlying9 inf8 _ _ _ rfl ho _ _ rfl hes (by rw [U_length]; omega) hEW ?_)
      intro v1 w2 ho2 hg2
      obtain ⟨b2, hJ2, hk2, hB2, ho3⟩ := hJ.append hv ho ho2 hg2
      obtain ⟨M, hM⟩ : ∃ M, (bs ++ es).length = M := ⟨_, rfl⟩
      obtain ⟨a1, c1, rfl, _, _⟩ := (SlV.ofOwn ho3).shapeU hM
      have cO2 := b2.cell; have fO2 := b2.frozen
      have hb3 := Away.mk (b2.set (.slice a1 M c1))
      clear ho2 hg2 b2 hv ho hJ cO cF hsn hne
      have hx3 : SlV (w2.setCell ⟨E + 1, 0, none⟩ (.slice a1 M c1)) (.slice xa xl.length xc) (U xl) := hxs.below (hb0.trans (hJ2.bel.mono h00))
      have hEW2 : E ≤ (w2.setCell ⟨E + 1, 0, none⟩ (.slice a1 M c1)).heap.size := by have := hk2.size; omega
      have ho3' : (w2.setCell ⟨E + 1, 0, none⟩ (.slice a1 M c1)).ownsRow E 5 1 (.slice a1 M c1) M (U (bs ++ es)) := by rw [← hM]; rw [← hM] at ho3; exact ho3
      have hM2 : M ≤ 1003004 := by rw [← hM, List.length_append]; omega
      clear ho3
      gi_wp2_with (refine wpListIn_append_sl rfl (.tmp 15) (.tmp 16) 22 rfl E 5 _ 1 Tryd.underlying22 inf8 rfl _ _ _ rfl ho3' _ _ rfl hx3 (U_one _) (by rw [U_length]; unfold maxLen; omega) (by rw [U_length]; omega) hEW2 ?_)
      intro v3 w3 ho4 hg4
      obtain ⟨b4, hJ4, hk4, hB4, ho5⟩ := JW.append (cs := xl) hJ2 hb3.out (by rw [hM]; exact ho3') (by rw [hM]; exact ho4) hg4
      obtain ⟨M2, hM3⟩ : ∃ M2, (bs ++ es ++ xl).length = M2 := ⟨_, rfl⟩
      obtain ⟨a3, c3, rfl, _, _⟩ := (SlV.ofOwn ho5).shapeU hM3
      have cO4 := b4.cell; have fO4 := b4.frozen
      have hk5 := Away.mk (hk2.trans hk4)
      have hB5 := Away.mk (hB2.trans hB4)
      clear ho4 hg4 b4 ho5 hJ2 cO2 fO2 ho3' hEW2 hx3 hb3 hk2 hk4 hB2 hB4
      have cF4 : (w3.setCell ⟨E + 1, 0, none⟩ (.slice a3 M2 c3)).cell? ⟨E + 1 + 1, 0, none⟩ = some (.bool false) := hJ4.bf.cell
      have fF4 : (w3.setCell ⟨E + 1, 0, none⟩ (.slice a3 M2 c3)).frozen? ⟨E + 1 + 1, 0, none⟩ = false := hJ4.bf.frozen
      obtain ⟨hJ6, hk6, hB6⟩ := hJ4.begun
      gi_wp2
      exact ⟨hk5.out.trans hk6, (hB5.out.trans hB6).mono h00, hJ6⟩
  case done =>
    intro D xs W hD hxs hJ hdef
    rw [hxs] at hJ
    obtain ⟨v, hv, ho⟩ := hJ.bo
    have hlen := ho.1
    obtain ⟨va, vc, rfl, hv1, hv2⟩ := (SlV.ofOwn ho).shapeU rfl
    have cO := hv.cell
    gi_wp2
    refine ⟨by simp, .inl ⟨_, _, rfl, run_takeDeferred hdef, ?_⟩⟩
    refine ⟨_, results_tmp rfl _ _ _, _, rfl, ?_, ?_⟩
    · rw [hE]; exact ownsRow_putObj ho _ hdef rfl
    · rw [hE]; exact hJ.bel.trans (belowK_b (w := w) (n₀ := E) (by omega) W D _ _ (by omega) hdef rfl rfl)
end Go.Proofs.YtcllmkfaifalgaaDoor.T
