/-
  The document's Same, Trim, joined. Conditions: each as it says.
-/
import Derived.Test.YtcllmkfaifalgaaDoorTxH
namespace Go.Proofs.YtcllmkfaifalgaaDoor.T
open Go Go.RowKit
set_option linter.unusedVariables false
set_option maxRecDepth 100000

/-- Slices that read as lists of bytes. -/
def Lr (w : World) : List Value → List (List Int) → Prop
  | [], [] => True
  | u :: vs, l :: ls => SlV w u (U l) ∧ Lr w vs ls
  | _, _ => False
theorem Lr.ofLs {w : World} {E : Nat} : ∀ {vs : List Value} {ls : List (List Int)}, Ls w E vs ls → Lr w vs ls
  | [], [], _ => trivial
  | _ :: _, _ :: _, h => ⟨SlV.ofOwn h.1, Lr.ofLs h.2⟩
  | [], _ :: _, h => h.elim
  | _ :: _, [], h => h.elim
theorem Lr.length {w : World} : ∀ {vs : List Value} {ls : List (List Int)}, Lr w vs ls → vs.length = ls.length
  | [], [], _ => rfl
  | _ :: _, _ :: _, h => by simp [Lr.length h.2]
  | [], _ :: _, h => h.elim
  | _ :: _, [], h => h.elim
theorem Lr.get {w : World} : ∀ {vs : List Value} {ls : List (List Int)}, Lr w vs ls → ∀ (i : Nat) (hi : i < ls.length), ∃ u, vs[i]? = some u ∧ SlV w u (U ls[i])
  | u :: vs, l :: ls, h, 0, _ => ⟨u, rfl, h.1⟩
  | u :: vs, l :: ls, h, i + 1, hi => by
    obtain ⟨x, hx, ho⟩ := Lr.get h.2 i (by simpa using hi)
    exact ⟨x, by simpa using hx, by simpa using ho⟩
  | [], [], _, _, hi => by simp at hi
  | [], _ :: _, h, _, _ => h.elim
  | _ :: _, [], h, _, _ => h.elim
theorem Lr.below {w w' : World} (hb : Below w.heap.size w w') : ∀ {vs : List Value} {ls : List (List Int)}, Lr w vs ls → Lr w' vs ls
  | [], [], _ => trivial
  | _ :: _, _ :: _, h => ⟨h.1.below hb, Lr.below hb h.2⟩
  | [], _ :: _, h => h.elim
  | _ :: _, [], h => h.elim

theorem shp {w : World} {v : Value} {vs : List Value} (h : SlV w v vs) {n : Nat} (hn : vs.length = n) : ∃ a cap, v = .slice a n cap ∧ n ≤ cap ∧ cap ≤ maxLen := by
  obtain ⟨a, cap, e, h1, h2⟩ := h.shape
  rw [hn] at e h1; exact ⟨a, cap, e, h1, h2⟩

set_option maxHeartbeats 2000000 in
theorem same_any (v1 v2 : Value) (vs1 vs2 : List Value) (l1 l2 : List (List Int)) (w : World) (h1 : SlV w v1 vs1) (h2 : SlV w v2 vs2) (r1 : Lr w vs1 l1) (r2 : Lr w vs2 l2) (b1 : ∀ l ∈ l1, Byt l) (b2 : ∀ l ∈ l2, Byt l) :
    Calls Tryd.prog 9 #[v1, v2] w fun e w' => e = .returned (.bool (decide (l1 = l2))) ∧ Below w.heap.size w w' := by
  have e1 := r1.length
  have e2 := r2.length
  obtain ⟨a1, c1, rfl, p1, p2⟩ := shp h1 e1
  obtain ⟨a2, c2, rfl, p3, p4⟩ := shp h2 e2
  have hm : maxLen = 9223372036854775807 := rfl
  by_cases hl : l1.length = l2.length
  · rw [← hl] at p3
    rw [← hl] at h2 ⊢
    go_enter Tryd.func9, Tryd.ntmps9
    go_wp2
    go_loopw [5] (fun i wr => ∃ k : Nat, k ≤ l1.length ∧ i = .int .i64 k ∧ l1.take k = l2.take k ∧ Below w.heap.size w wr) (fun i _ => match i with | .int _ k => l1.length - k.toNat | _ => 0)
    case atStart => exact ⟨0, by omega, rfl, rfl, Below.refl _ _⟩
    case round =>
      obtain ⟨k, hk, rfl, ht, hB⟩ := hrel
      by_cases hkl : k = l1.length
      · subst hkl
        go_wp2
        go_ret
        have : l1 = l2 := by rw [List.take_length] at ht; rw [ht, hl, List.take_length]
        exact ⟨by rw [decide_eq_true this]; rfl, hB⟩
      · have hk1 : k < l1.length := by omega
        obtain ⟨u1, g1, s1⟩ := r1.get k hk1
        obtain ⟨u2, g2, s2⟩ := r2.get k (by omega)
        have hd1 := h1.below hB
        have hd2 := h2.below hB
        obtain ⟨bk1, o1, rfl, _, f1⟩ := hd1.cells (by omega)
        obtain ⟨bk2, o2, rfl, _, f2⟩ := hd2.cells (by omega)
        have d1 := f1 k u1 g1
        have d2 := f2 k u2 g2
        clear f1 f2
        have s1' := s1.below hB
        have s2' := s2.below hB
        have k1 : ∀ q, (convert 22 9 u1).run Tryd.prog (wr.drewN q) = .ok (.string (strOfNums l1[k])) (wr.drewN q) := fun q => run_str _ (s1'.below (below_drewN (Below.refl _ _) q))
        have k2 : ∀ q, (convert 22 9 u2).run Tryd.prog (wr.drewN q) = .ok (.string (strOfNums l2[k])) (wr.drewN q) := fun q => run_str _ (s2'.below (below_drewN (Below.refl _ _) q))
        obtain ⟨ua1, uc1, rfl, _, _⟩ := s1.shapeU rfl
        obtain ⟨ua2, uc2, rfl, _, _⟩ := s2.shapeU rfl
        have hbe := str_beq (b1 _ (List.getElem_mem hk1)) (b2 _ (List.getElem_mem (show k < l2.length by omega)))
        have t1 : l1.take (k + 1) = l1.take k ++ [l1[k]] := take_snoc hk1
        have t2 : l2.take (k + 1) = l2.take k ++ [l2[k]'(by omega)] := take_snoc _
        have HT := Away.mk (show l1[k] = l2[k]'(by omega) → l1.take (k + 1) = l2.take (k + 1) from fun h => by rw [t1, t2, ht, h])
        have HN := Away.mk (show ¬ l1[k] = l2[k]'(by omega) → ¬ l1 = l2 from fun h e => h (by subst e; rfl))
        clear s1' s2' s1 s2 hd1 hd2 h1 h2 t1 t2
        generalize l1[k] = x1 at *
        generalize l2[k]'(by omega) = x2 at *
        have hla := Away.mk hl
        clear hl
        by_cases hx : x1 = x2
        · rw [decide_eq_true hx] at hbe
          have hx' := Away.mk hx
          clear hx
          go_wp2
          go_quiet (fail)
          go_wp2
          go_roundw
          case rel => exact ⟨k + 1, by omega, by go_num, HT.out hx'.out, below_drewN hB nq⟩
          case measure => simp; omega
        · rw [decide_eq_false hx] at hbe
          have hx' := Away.mk hx
          clear hx
          go_wp2
          go_quiet (fail)
          go_wp2
          go_ret
          exact ⟨by rw [decide_eq_false (HN.out hx'.out)]; rfl, below_drewN hB nq⟩
  · go_enter Tryd.func9, Tryd.ntmps9
    go_wp2
    go_ret
    exact ⟨by rw [decide_eq_false (fun e => hl (by rw [e]))]; rfl, Below.refl _ _⟩

set_option maxHeartbeats 2000000 in
theorem reftrim_any (v : Value) (xs : List Int) (w : World) (hS : SlV w v (U xs)) (hb : Byt xs) (hl : xs.length ≤ 1000000) :
    Calls Tryd.prog 12 #[v] w fun e w' => ∃ v', e = .returned v' ∧ w'.ownsRow w.heap.size 5 1 v' (trim xs).length (U (trim xs)) ∧ Below w.heap.size w w' := by
  obtain ⟨L, hL⟩ : ∃ L, xs.length = L := ⟨_, rfl⟩
  have hS' := Away.mk hS
  obtain ⟨a, cap, rfl, hcap, hcm⟩ := hS.shapeU hL
  have hm : maxLen = 9223372036854775807 := rfl
  go_enter Tryd.func12, Tryd.ntmps12
  go_wp2
  go_loopw [3] (fun i wr => ∃ m : Nat, m ≤ L ∧ i = .int .i64 m ∧ trim (xs.take m) = trim xs ∧ wr = w) (fun i _ => match i with | .int _ k => k.toNat | _ => 0)
  case atStart => exact ⟨L, Nat.le_refl _, rfl, by rw [List.take_of_length_le (by omega)], rfl⟩
  case round =>
    obtain ⟨m, hmL, rfl, ht, rfl⟩ := hrel
    obtain ⟨zs, hzs0⟩ : ∃ zs, xs.take m = zs := ⟨_, rfl⟩
    have hN : zs.length = m := by rw [← hzs0, List.length_take]; omega
    have hbz : Byt zs := by rw [← hzs0]; exact hb.take m
    have hfin : trim xs = zs → ∀ (p : Nat), p = m → SlV wr (.slice a p cap) (U (trim xs)) := fun h p hp => by
      subst hp; rw [h, ← hzs0, U_take]; exact hS'.out.upto p hmL
    rw [hzs0] at ht
    have hA : Below wr.heap.size wr (wr.alloc (.cells #[] 5)) := (Below.refl _ _).alloc (Nat.le_refl _) _
    have hoA := own_empty wr wr.heap.size 5 (Nat.le_refl _)
    have htl := trim_length xs
    cases m with
    | zero =>
      obtain rfl : zs = [] := List.eq_nil_of_length_eq_zero hN
      have htr : trim xs = [] := by rw [← ht]; rfl
      have hsx := (hfin htr 0 rfl).below hA
      clear hS htr
      go_wp2_with (refine wpList_append_sl rfl (.tmp 26) (.tmp 29) 22 rfl wr.heap.size 5 _ 1 Tryd.underlying22 inf8 rfl _ 0 [] rfl hoA _ (U (trim xs)) rfl hsx (U_one _) (by rw [U_length]; unfold maxLen; omega) (by rw [U_length]; omega) (by simp) ?_)
      intro v1 w1 ho1 hg1
      have hb1 : Below wr.heap.size wr w1 := hA.grown hg1 hA.size (fun k hk => (hoA.lt k hk).1)
      have ho1 : w1.ownsRow wr.heap.size 5 1 v1 (trim xs).length (U (trim xs)) := by simpa [U_length] using ho1
      go_wp2
      go_ret
      exact ⟨_, rfl, ho1, hb1⟩
    | succ N =>
      obtain ⟨x, d1, d2, d3, d4⟩ := last_drop hN
      have hx := hbz x d3
      have hzs : zs = zs.take N ++ [x] := by rw [← d1, List.take_append_drop]
      have hpre : xs.take N = zs.take N := by rw [← hzs0, List.take_take]; congr 1; omega
      obtain ⟨b, off, rfl, hbl, hcell⟩ := hS.cells (by rw [U_length]; omega)
      have hc : wr.cell? ⟨b, off + N, none⟩ = some (.int .u8 x) := hcell N _ (by
        have e1 : U xs = U (xs.take (N + 1)) ++ U (xs.drop (N + 1)) := by rw [← U_append, List.take_append_drop]
        rw [e1, List.getElem?_append_left (by rw [U_length, List.length_take]; omega), hzs0]
        have := congrArg U hzs
        rw [U_append] at this
        rw [this, List.getElem?_append_right (by rw [U_length, List.length_take]; omega)]
        have e : N - (U (zs.take N)).length = 0 := by rw [U_length, List.length_take]; omega
        rw [e]; rfl)
      clear hcell hS
      cases hbx : bl x with
      | true =>
        have ht2 := trim_snoc_bl (l := zs.take N) hbx
        rw [← hzs] at ht2
        have HT := Away.mk (show trim (xs.take N) = trim xs by rw [hpre]; exact ht2.symm.trans ht)
        clear ht2 hzs hpre hfin hA hoA
        have hx2 : x = 32 ∨ x = 9 := by simpa [bl] using hbx
        rcases hx2 with rfl | rfl
        · go_wp2
          go_roundw
          case rel => exact ⟨N, by omega, by go_num, HT.out, trivial⟩
          case measure => simp
        · go_wp2
          go_roundw
          case rel => exact ⟨N, by omega, by go_num, HT.out, trivial⟩
          case measure => simp
      | false =>
        have ht2 := trim_snoc_no (l := zs.take N) hbx
        rw [← hzs] at ht2
        have htr : trim xs = zs := by rw [← ht, ht2]
        have hsx := (hfin htr (N + 1) rfl).below hA
        have hx3 : (x == 32) = false := by simp [bl] at hbx ⊢; exact hbx.1
        have hx4 : (x == 9) = false := by simp [bl] at hbx ⊢; exact hbx.2
        clear ht2 hzs hpre hfin htr hbx
        go_wp2_with (refine wpList_append_sl rfl (.tmp 26) (.tmp 29) 22 rfl wr.heap.size 5 _ 1 Tryd.underlying22 inf8 rfl _ 0 [] rfl hoA _ (U (trim xs)) rfl hsx (U_one _) (by rw [U_length]; unfold maxLen; omega) (by rw [U_length]; omega) (by simp) ?_)
        intro v1 w1 ho1 hg1
        have hb1 : Below wr.heap.size wr w1 := hA.grown hg1 hA.size (fun k hk => (hoA.lt k hk).1)
        have ho1 : w1.ownsRow wr.heap.size 5 1 v1 (trim xs).length (U (trim xs)) := by simpa [U_length] using ho1
        go_wp2
        go_ret
        exact ⟨_, rfl, ho1, hb1⟩

/-- append(b, s...), s a string: outside of a fence. -/
theorem wpList_append_str {P : Program} {w : World} {ops : Array Oper} {rest : List Oper} {o : Oper} {a : Act} {Q : Exit → Act → World → Prop} (hgd : o.guard = none) (s x : Operand) (t u : TypeId) (ho : o.op = .call { callee := .builtin .append, args := #[s, x], argTypes := #[t, u] })
    (base : Nat) (e : TypeId) (ht : P.underlying t = some (.slice e)) (hu : P.underlying u = some .string) (hinfo : (P.info? e).map (fun i => (i.zero, i.size, i.bytes)) = some (some (.int .u8 0), 1, 1))
    (v : Value) (k : Nat) (xs : List Value) (hs : a.eval s = v) (hown : w.ownsRow base e 1 v k xs) (st : ByteArray) (ys : List Value) (hx : a.eval x = .string st) (hst : Lib.strCells st = ys)
    (h63 : k + ys.length ≤ 140737488355328) (hbase : base ≤ w.heap.size)
    (h : ∀ v' w', w'.ownsRow base e 1 v' (k + ys.length) (xs ++ ys) → w.grownBy w' v.ownBlock → wpList P ops Q rest (a.put o.dst v') w') : wpList P ops Q (o :: rest) a w := by
  obtain ⟨i0, hi, hz0, hz1, hz2⟩ := info_parts hinfo
  subst hst
  have hsz := Lib.strCells_length st
  rw [hsz] at h63 h
  exact Lib.wpList_append_own_string (P := P) w hgd s x t u ho base e i0 ht hu hi hz0 hz1 hz2 v k xs hs hown st hx (by unfold maxLen; omega) h63 hbase (fun v' w' p q _ => h v' w' p q)

set_option maxHeartbeats 2000000 in
theorem refjoined_any (v : Value) (vs : List Value) (ls : List (List Int)) (w : World) (hS : SlV w v vs) (hr : Lr w vs ls) (hn : ls.length ≤ 1001) (hl : ∀ l ∈ ls, l.length ≤ 1000) (s : ByteArray) (es : List Int) (hes : Lib.strCells s = U es) (hel : es.length ≤ 2) :
    Calls Tryd.prog 25 #[v, .string s] w fun e w' => ∃ v', e = .returned v' ∧ w'.ownsRow w.heap.size 5 1 v' (jn es ls).length (U (jn es ls)) ∧ Below w.heap.size w w' := by
  obtain ⟨a, cap, rfl, p1, p2⟩ := shp hS hr.length
  have hA : Below w.heap.size w (w.alloc (.cells #[] 5)) := (Below.refl _ _).alloc (Nat.le_refl _) _
  have hoA := own_empty w w.heap.size 5 (Nat.le_refl _)
  go_enter Tryd.func25, Tryd.ntmps25
  go_wp2
  go_loopw [5, 6] (fun o i wr => ∃ k : Nat, k ≤ ls.length ∧ i = .int .i64 k ∧ wr.ownsRow w.heap.size 5 1 o (jn es (ls.take k)).length (U (jn es (ls.take k))) ∧ Below w.heap.size w wr) (fun _ i _ => match i with | .int _ k => ls.length - k.toNat | _ => 0)
  case atStart => exact ⟨0, by omega, rfl, hoA, hA⟩
  case round =>
    obtain ⟨k, hk, rfl, ho, hB⟩ := hrel
    obtain ⟨va, vc, rfl, q1, q2⟩ := (SlV.ofOwn ho).shapeU rfl
    have hm : maxLen = 9223372036854775807 := rfl
    have hjl : (jn es (ls.take k)).length ≤ 1003002 := by
      have h1 := jn_length es 1000 (ls.take k) (fun l hl' => hl l (List.mem_of_mem_take hl'))
      have h2 : (ls.take k).length * (1000 + es.length) ≤ 1001 * 1002 := Nat.mul_le_mul (by rw [List.length_take]; omega) (by omega)
      omega
    have hlo : ∀ b, (Value.slice va (jn es (ls.take k)).length vc).ownBlock = some b → w.heap.size ≤ b := fun b hb => (ho.lt b hb).1
    by_cases hkl : k = ls.length
    · rw [hkl, List.take_length] at ho hjl q1 ⊢
      have HO := Away.mk ho
      clear ho hlo
      go_wp2
      go_ret
      exact ⟨_, rfl, HO.out, hB⟩
    · have hk1 : k < ls.length := by omega
      obtain ⟨u, g1, s1⟩ := hr.get k hk1
      obtain ⟨bk, off, rfl, _, f1⟩ := (hS.below hB).cells (by rw [hr.length]; omega)
      have d1 := f1 k u g1
      have s1' := s1.below hB
      have hll := hl ls[k] (List.getElem_mem hk1)
      have t1 : jn es (ls.take (k + 1)) = if ls.take k = [] then ls[k] else jn es (ls.take k) ++ es ++ ls[k] := by rw [take_snoc hk1, jn_snoc]
      have ht0 : ls.take k = [] ↔ k = 0 := by
        rw [← List.length_eq_zero_iff, List.length_take]; omega
      have hb0 : k = 0 → jn es (ls.take k) = [] := fun h => by rw [ht0.2 h]; rfl
      have hbw := hB.size
      clear f1
      generalize jn es (ls.take k) = bs at *
      generalize ls[k] = l at *
      obtain ⟨ua, uc, rfl, _, _⟩ := s1.shapeU rfl
      by_cases h0 : k = 0
      · obtain rfl := hb0 h0
        subst h0
        rw [if_pos (ht0.2 rfl)] at t1
        clear hb0 ht0
        have T1 := Away.mk t1
        clear t1
        rw [Nat.add_zero] at d1
        go_wp2_with (refine wpList_append_sl rfl (.tmp 19) (.tmp 23) 22 rfl w.heap.size 5 _ 1 Tryd.underlying22 inf8 rfl _ _ _ rfl ho _ _ rfl s1' (U_one _) (by rw [U_length]; unfold maxLen; simp; omega) (by rw [U_length]; simp; omega) hbw ?_)
        intro v1 w2 ho2 hg2
        have hB2 : Below w.heap.size w w2 := hB.grown hg2 hbw hlo
        have ho3 : w2.ownsRow w.heap.size 5 1 v1 l.length (U l) := by simpa [U_length, show U [] = [] from rfl] using ho2
        obtain ⟨a1, c1, rfl, _, _⟩ := (SlV.ofOwn ho3).shapeU rfl
        have HO := Away.mk ho3
        clear ho2 hg2 ho ho3 hlo
        go_wp2
        go_roundw
        case rel => exact ⟨0 + 1, by omega, by go_num, by rw [T1.out]; exact HO.out, hB2⟩
        case measure => simp; omega
      · rw [if_neg (fun h => h0 (ht0.1 h))] at t1
        have T1 := Away.mk t1
        clear t1 ht0 hb0
        go_wp2_with (refine wpList_append_str rfl (.tmp 16) (.tmp 17) 22 9 rfl w.heap.size 5 Tryd.underlying22 Tryd.underlying9 inf8 _ _ _ rfl ho _ _ rfl hes (by rw [U_length]; omega) hbw ?_)
        intro v1 w2 ho2 hg2
        have hB2 : Below w.heap.size w w2 := hB.grown hg2 hbw hlo
        have ho3 : w2.ownsRow w.heap.size 5 1 v1 (bs ++ es).length (U (bs ++ es)) := by rw [List.length_append, U_append]; rw [U_length] at ho2; exact ho2
        obtain ⟨M, hM⟩ : ∃ M, (bs ++ es).length = M := ⟨_, rfl⟩
        have hM2 : M ≤ 1003004 := by rw [← hM, List.length_append]; omega
        obtain ⟨a1, c1, rfl, _, _⟩ := (SlV.ofOwn ho3).shapeU hM
        rw [hM] at ho3
        have d2 := (hS.below hB2).cellAt g1
        have s2 := s1.below hB2
        have hbw2 := hB2.size
        have hlo2 : ∀ b, (Value.slice a1 M c1).ownBlock = some b → w.heap.size ≤ b := fun b hb => (ho3.lt b hb).1
        clear ho2 hg2 ho hlo d1 s1'
        go_wp2_with (refine wpList_append_sl rfl (.tmp 19) (.tmp 23) 22 rfl w.heap.size 5 _ 1 Tryd.underlying22 inf8 rfl _ _ _ rfl ho3 _ _ rfl s2 (U_one _) (by rw [U_length]; unfold maxLen; omega) (by rw [U_length]; omega) hbw2 ?_)
        intro v3 w3 ho4 hg4
        have hB3 : Below w.heap.size w w3 := hB2.grown hg4 hbw2 hlo2
        have ho5 : w3.ownsRow w.heap.size 5 1 v3 (bs ++ es ++ l).length (U (bs ++ es ++ l)) := by rw [List.length_append, U_append, hM]; rw [U_length] at ho4; exact ho4
        obtain ⟨M3, hM3⟩ : ∃ M3, (bs ++ es ++ l).length = M3 := ⟨_, rfl⟩
        obtain ⟨a3, c3, rfl, _, _⟩ := (SlV.ofOwn ho5).shapeU hM3
        have HO := Away.mk ho5
        clear ho4 hg4 ho3 ho5 hlo2 d2 s2
        go_wp2
        go_roundw
        case rel => exact ⟨k + 1, by omega, by go_num, by rw [T1.out]; exact HO.out, hB3⟩
        case measure => simp; omega
end Go.Proofs.YtcllmkfaifalgaaDoor.T
