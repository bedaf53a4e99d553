/-
  Contracts of cmp.Compare and Cmp, over this seat's translation. Conditions: at most 100000 words.
-/
import Derived.Test.YtdpahahfcdldcaaDoorNatS
import Derived.Deep.Cut
import Derived.Deep.CutRange
import Derived.Deep.RegionWith
namespace Go.Proofs.YtdpahahfcdldcaaDoor
open Go.RowKit Go.Shelf
set_option linter.unusedVariables false
set_option linter.unusedSimpArgs false
attribute [local go_sem] Oper.semAt_some

theorem allReadyH_twoL {P : Program} {md : Region.Mode} {L : List Oper} {Q : Exit → Act → World → Prop} {S : World → Prop} {fuel : Nat} {listed : Array Bool} {a : Act} {w : World} {i j : Nat} {o p : Oper} (hr : Region.ready md L.toArray listed = [i, j]) (ho : L[i]? = some o) (hp : L[j]? = some p) (hw : Region.wanted o (yielded L.toArray a.tmps) = true) (hv : Region.wanted p (yielded L.toArray a.tmps) = true)
    (h : ∀ K' : Act → World → Prop, Shut (∀ a w, S w → (S w → wpAnyH P md L.toArray Q S fuel (listed.setIfInBounds i true) a w) → K' a w) → Oper.wp P o a w K' Q)
    (k : ∀ K' : Act → World → Prop, Shut (∀ a w, S w → (S w → wpAnyH P md L.toArray Q S fuel (listed.setIfInBounds j true) a w) → K' a w) → Oper.wp P p a w K' Q) : wpAnyH P md L.toArray Q S (fuel + 1) listed a w :=
  wpAnyH_ready hr (by simp) (AllReadyH.cons (getL ho) (fun K hK => by rw [if_pos hw]; exact h K hK) (AllReadyH.cons (getL hp) (fun K hK => by rw [if_pos hv]; exact k K hK) AllReadyH.nil))
/-- What is read of words is not in a variable's box. -/
theorem sl_box {w w' : World} {v : Value} {xs : List Nat} {b : Nat} {a : Option Addr} {n c : Nat} (h : SlV w v (C .u32 xs)) (hb : Boxed w b 44 (.slice a n c)) (hg : w.grownBy w' (some b)) : SlV w' v (C .u32 xs) := by
  by_cases hp : 0 < (C .u32 xs).length
  · refine h.keep fun b' e hlt => hg.block b' hlt (fun e' => ?_)
    obtain rfl : b' = b := by simpa using e'
    obtain ⟨a', cap, rfl, _, _, _, h4⟩ := h
    obtain ⟨b2, off, rfl, h5⟩ := h4 hp
    simp only [Value.ownBlock, Option.some.injEq] at e
    subst e
    have h6 := h5 0 _ (List.getElem?_eq_getElem hp)
    have h7 : (C .u32 xs)[0]'hp = .int .u32 ((xs[0]'(by simpa [C] using hp) : Nat) : Int) := by simp [C]
    rw [h7] at h6
    rw [(show Row w b2 44 [.slice a n c] from hb).cell] at h6
    cases off with
    | zero => simp at h6
    | succ o => simp at h6
  · obtain ⟨a', cap, rfl, h1, h2, h3, h4⟩ := h
    exact ⟨a', cap, rfl, h1, h2, h3, fun hp' => absurd hp' hp⟩

theorem above_at {xs ys : List Nat} {n k : Nat} (hn : xs.length = n) (hm : ys.length = n) (hk : k ≤ n) (qs : List (Al n fun j z => z = xs.getD j 0)) (hp : places qs = desc n k) (h : ∀ p ∈ qs, ys.getD p.1.1 0 = p.1.2) : ∀ j, n - 1 - k < j → xs.getD j 0 = ys.getD j 0 := by
  intro j hj
  by_cases hjn : j < n
  · have : j ∈ desc n k := by simp only [desc, List.mem_map, List.mem_range]; exact ⟨n - 1 - j, by omega, by omega⟩
    rw [← hp] at this
    obtain ⟨p, hp1, hp2⟩ := List.mem_map.1 this
    have h2 := p.2.2.2
    rw [← h p hp1, hp2] at h2
    exact h2.symm
  · rw [getD_past (by omega), getD_past (by omega)]
theorem same_at {xs ys : List Nat} {n k : Nat} (hn : xs.length = n) (hm : ys.length = n) (hk : n ≤ k) (qs : List (Al n fun j z => z = xs.getD j 0)) (hp : places qs = desc n n) (h : ∀ p ∈ qs, ys.getD p.1.1 0 = p.1.2) : ∀ j, xs.getD j 0 = ys.getD j 0 := by
  intro j
  by_cases hjn : j < n
  · have := mem_desc hjn
    rw [← hp] at this
    obtain ⟨p, hp1, hp2⟩ := List.mem_map.1 this
    have h2 := p.2.2.2
    rw [← h p hp1, hp2] at h2
    exact h2.symm
  · rw [getD_past (by omega), getD_past (by omega)]
theorem cmp_at {xs ys : List Nat} (hx : Lo W32 xs) (hy : Lo W32 ys) (i : Nat) (h : ∀ j, i < j → xs.getD j 0 = ys.getD j 0) : cmpI (val W32 xs) (val W32 ys) = if xs.getD i 0 = ys.getD i 0 then cmpI (val W32 xs) (val W32 ys) else cmpI (xs.getD i 0) (ys.getD i 0) := by
  split
  · rfl
  · rename_i hne
    rcases Nat.lt_or_ge (xs.getD i 0) (ys.getD i 0) with h1 | h1
    · rw [cmpI_lt h1, cmpI_lt (val_cmp (by decide) hx i h h1)]
    · have h2 : ys.getD i 0 < xs.getD i 0 := by omega
      rw [cmpI_gt h2, cmpI_gt (val_cmp (by decide) hy i (fun j hj => (h j hj).symm) h2)]
theorem nanI_any (a : Int) (w : World) : Calls Tryd.prog 69 #[.int .i64 a] w fun e w' => e = .returned (.bool false) ∧ w = w' := by
  go_enter Tryd.func69, Tryd.ntmps69
  go_wp2
  go_ret
  exact ⟨by simp, rfl⟩
theorem nanU_any (a : Int) (w : World) : Calls Tryd.prog 71 #[.int .u32 a] w fun e w' => e = .returned (.bool false) ∧ w = w' := by
  go_enter Tryd.func71, Tryd.ntmps71
  go_wp2
  go_ret
  exact ⟨by simp, rfl⟩
theorem compareI_any (a b : Nat) (w : World) : Calls Tryd.prog 60 #[.int .i64 (a : Int), .int .i64 (b : Int)] w fun e w' => e = .returned (.int .i64 (cmpI a b)) ∧ w = w' := by
  rcases Nat.lt_trichotomy a b with h | rfl | h
  · rw [cmpI_lt h]
    have d1 : decide (a < b) = true := decide_eq_true h
    go_enter Tryd.func60, Tryd.ntmps60
    go_wp2_with fail
    refine (nanI_any _ w).mono ?_
    rintro _ w' ⟨rfl, rfl⟩
    go_wp2_with fail
    refine (nanI_any _ w).mono ?_
    rintro _ w' ⟨rfl, rfl⟩
    go_wp2
    go_ret
    exact ⟨rfl, rfl⟩
  · rw [cmpI_eq]
    go_enter Tryd.func60, Tryd.ntmps60
    go_wp2_with fail
    refine (nanI_any _ w).mono ?_
    rintro _ w' ⟨rfl, rfl⟩
    go_wp2_with fail
    refine (nanI_any _ w).mono ?_
    rintro _ w' ⟨rfl, rfl⟩
    go_wp2
    go_ret
    exact ⟨rfl, rfl⟩
  · rw [cmpI_gt h]
    have d1 : decide (a < b) = false := decide_eq_false (by omega)
    have d2 : decide (b < a) = true := decide_eq_true h
    go_enter Tryd.func60, Tryd.ntmps60
    go_wp2_with fail
    refine (nanI_any _ w).mono ?_
    rintro _ w' ⟨rfl, rfl⟩
    go_wp2_with fail
    refine (nanI_any _ w).mono ?_
    rintro _ w' ⟨rfl, rfl⟩
    go_wp2
    go_ret
    exact ⟨rfl, rfl⟩
theorem compareU_any (a b : Nat) (w : World) : Calls Tryd.prog 62 #[.int .u32 (a : Int), .int .u32 (b : Int)] w fun e w' => e = .returned (.int .i64 (cmpI a b)) ∧ w = w' := by
  rcases Nat.lt_trichotomy a b with h | rfl | h
  · rw [cmpI_lt h]
    have d1 : decide (a < b) = true := decide_eq_true h
    go_enter Tryd.func62, Tryd.ntmps62
    go_wp2_with fail
    refine (nanU_any _ w).mono ?_
    rintro _ w' ⟨rfl, rfl⟩
    go_wp2_with fail
    refine (nanU_any _ w).mono ?_
    rintro _ w' ⟨rfl, rfl⟩
    go_wp2
    go_ret
    exact ⟨rfl, rfl⟩
  · rw [cmpI_eq]
    go_enter Tryd.func62, Tryd.ntmps62
    go_wp2_with fail
    refine (nanU_any _ w).mono ?_
    rintro _ w' ⟨rfl, rfl⟩
    go_wp2_with fail
    refine (nanU_any _ w).mono ?_
    rintro _ w' ⟨rfl, rfl⟩
    go_wp2
    go_ret
    exact ⟨rfl, rfl⟩
  · rw [cmpI_gt h]
    have d1 : decide (a < b) = false := decide_eq_false (by omega)
    have d2 : decide (b < a) = true := decide_eq_true h
    go_enter Tryd.func62, Tryd.ntmps62
    go_wp2_with fail
    refine (nanU_any _ w).mono ?_
    rintro _ w' ⟨rfl, rfl⟩
    go_wp2_with fail
    refine (nanU_any _ w).mono ?_
    rintro _ w' ⟨rfl, rfl⟩
    go_wp2
    go_ret
    exact ⟨rfl, rfl⟩

set_option maxRecDepth 100000 in
set_option maxHeartbeats 2000000 in
theorem cmp_any (va vb : Value) (xs ys : List Nat) (w : World) (ha : SlV w va (C .u32 xs)) (hb : SlV w vb (C .u32 ys)) (hx : Lo W32 xs) (hy : Lo W32 ys) (hxm : xs.length ≤ 100000) (hym : ys.length ≤ 100000) :
    Calls Tryd.prog 49 #[va, vb] w fun e w' => e = .returned (.int .i64 (cmpI (val W32 xs) (val W32 ys))) ∧ Below w.heap.size w w' := by
  obtain ⟨na, hna⟩ : ∃ n, xs.length = n := ⟨_, rfl⟩
  obtain ⟨nb, hnb⟩ : ∃ n, ys.length = n := ⟨_, rfl⟩
  obtain ⟨a, ca, rfl, q1, r1⟩ := ha.shapeC hna
  obtain ⟨b, cb, rfl, q2, r2⟩ := hb.shapeC hnb
  refine (callsIn_wide (n := 3)).1 ?_
  refine callsIn_of_wp_marks Tryd.func49 rfl trivial ?_ rfl
  refine wpIn_wide.2 ?_
  simp only [Tryd.ntmps49, List.size_toArray, List.length_cons, List.length_nil, Nat.reduceAdd, Nat.reduceSub, Array.replicate_succ, Array.replicate_zero, List.push_toArray, List.append_toArray, List.nil_append, List.cons_append]
  go_wp2
  obtain ⟨w0, hw0⟩ : ∃ w0, (w.alloc (.cells #[.slice b nb cb] 44)).alloc (.cells #[.int .i64 0] 3) = w0 := ⟨_, rfl⟩
  rw [hw0]
  have hB0 : Below w.heap.size w w0 := by rw [← hw0]; exact ((Below.refl _ w).alloc (Nat.le_refl _) _).alloc (by simp) _
  have hsz : w0.heap.size = w.heap.size + 2 := by rw [← hw0]; simp
  have bB : Boxed w0 w.heap.size 44 (.slice b nb cb) := by rw [← hw0]; exact (Boxed.new _ _ _).alloc _
  have bR : Boxed w0 (w.heap.size + 1) 3 (.int .i64 0) := by rw [← hw0]; have := Boxed.new (w.alloc (.cells #[.slice b nb cb] 44)) 3 (.int .i64 0); rwa [World.size_alloc] at this
  have hc0 := bB.cell
  clear hw0
  have hbox : ∀ w', Below w0.heap.size w0 w' → w'.cell? ⟨w.heap.size, 0, none⟩ = some (.slice b nb cb) ∧ w'.frozen? ⟨w.heap.size, 0, none⟩ = false := fun w' h => ⟨(h.cell (p := ⟨w.heap.size, 0, none⟩) (by simp; omega)).trans bB.cell, (h.frozen (p := ⟨w.heap.size, 0, none⟩) (by simp; omega)).trans bB.frozen⟩
  have HA := Away.mk (ha.below hB0); have HB := Away.mk (hb.below hB0); have HX := Away.mk hbox; have HB0 := Away.mk hB0
  clear hbox hc0 hB0 ha hb
  go_cut [0] from 7 to 10 (fun v0 wc => ∃ zs us v2, Is W32 (val W32 xs) zs ∧ Is W32 (val W32 ys) us ∧ zs.length ≤ xs.length ∧ us.length ≤ ys.length ∧ SlV wc v0 (C .u32 zs) ∧ SlV wc v2 (C .u32 us) ∧ Boxed wc w.heap.size 44 v2 ∧ Boxed wc (w.heap.size + 1) 3 (.int .i64 0) ∧ Below w.heap.size w wc)
  case first =>
    have hc0 := bB.cell
    have hf0 := bB.frozen
    refine wp_region_noPanic ?_
    refine wp_region_held_drew (S := fun _ => True) (by kernel_rfl) trivial (fun _ => ?_)
    refine wpAnyH_takeL (i := 0) (v := ?v0) rfl (by kernel_rfl) (by kernel_rfl) (by kernel_rfl) (fun _ _ _ h => h) (by rfl) ?h0 trivial ?_
    case h0 => intro w hSw; go_simp <;> with_reducible rfl
    simp only [Act.put, List.setIfInBounds_toArray, List.set_cons_zero, List.set_cons_succ]
    refine allReadyH_twoL (i := 1) (j := 2) (by kernel_rfl) rfl rfl (by rfl) (by rfl) (fun K hK => ?_) (fun K hK => ?_)
    · go_simp
      refine (trimmed_read (.slice a na ca) xs _ (HA.out.below (Below.refl _ _).drew) hx (by omega)).mono ?_
      rintro _ w1 ⟨v1, zs, rfl, hI1, hl1, hs1, hb1⟩
      have hb1 : Below w0.heap.size w0 w1 := ⟨hb1.os, hb1.tape, hb1.output, hb1.size, hb1.block⟩
      have hc1 := (HX.out w1 hb1).1
      have HS1 := Away.mk hs1; have HB1 := Away.mk hb1; have HI1 := Away.mk hI1
      clear hb1 hs1 hI1
      refine hK.out _ _ trivial (fun _ => ?_)
      clear hK K
      try simp only [Act.put, List.setIfInBounds_toArray, List.set_cons_zero, List.set_cons_succ]
      refine allReadyH_oneL (i := 2) (by kernel_rfl) rfl (by rfl) (fun K hK => ?_)
      go_simp
      refine hK.out _ _ trivial (fun _ => ?_)
      clear hK K
      try simp only [Act.put, List.setIfInBounds_toArray, List.set_cons_zero, List.set_cons_succ]
      refine allReadyH_oneL (i := 3) (by kernel_rfl) rfl (by rfl) (fun K hK => ?_)
      go_simp
      refine (trimmed_read (.slice b nb cb) ys _ (HB.out.below HB1.out) hy (by omega)).mono ?_
      rintro _ w2 ⟨v2, us, rfl, hI2, hl2, hs2, hb2⟩
      refine hK.out _ _ trivial (fun _ => ?_)
      clear hK K
      refine wpAnyH_takeL (i := 4) (v := ?v4) rfl (by kernel_rfl) (by kernel_rfl) (by kernel_rfl) (fun _ _ _ h => h) (by rfl) ?h4 trivial ?_
      case h4 => intro w hSw; go_simp <;> with_reducible rfl
      try simp only [Act.put, List.setIfInBounds_toArray, List.set_cons_zero, List.set_cons_succ]
      have hb2' : Below w0.heap.size w0 w2 := HB1.out.trans (hb2.mono HB1.out.size)
      have hc2 := (HX.out w2 hb2').1
      have hf2 := (HX.out w2 hb2').2
      obtain ⟨a2, c2, rfl, q3, r3⟩ := hs2.shapeC rfl
      refine allReadyH_oneL (i := 5) (by kernel_rfl) rfl (by rfl) (fun K hK => ?_)
      go_simp
      refine hK.out _ _ trivial (fun _ => ?_)
      clear hK K
      refine wpAnyH_done (by kernel_rfl) ?_ _
      refine NoPanic.normal ?_
      go_wp2_with fail
      go_meet
      case rel =>
        have hs1 := HS1.out.below hb2
        have hbB2 := bB.kept (grown_of_below hb2' none) (by simp)
        have hbR2 := bR.kept (grown_of_below hb2' none) (by simp)
        have hbw := HB0.out.trans (hb2'.mono HB0.out.size)
        have hg := grown_set w2 w.heap.size 0 (.slice a2 us.length c2)
        refine ⟨zs, us, _, HI1.out, hI2, hl1, hl2, ?_, ?_, hbB2.set _, hbR2.kept hg (by simp), hbw.setCell (p := ⟨w.heap.size, 0, none⟩) (Nat.le_refl _) _⟩
        · exact sl_box hs1 hbB2 hg
        · exact sl_box hs2 hbB2 hg
    · go_simp
      refine hK.out _ _ trivial (fun _ => ?_)
      clear hK K
      try simp only [Act.put, List.setIfInBounds_toArray, List.set_cons_zero, List.set_cons_succ]
      refine allReadyH_oneL (i := 1) (by kernel_rfl) rfl (by rfl) (fun K hK => ?_)
      go_simp
      refine (trimmed_read (.slice a na ca) xs _ (HA.out.below (Below.refl _ _).drew) hx (by omega)).mono ?_
      rintro _ w1 ⟨v1, zs, rfl, hI1, hl1, hs1, hb1⟩
      have hb1 : Below w0.heap.size w0 w1 := ⟨hb1.os, hb1.tape, hb1.output, hb1.size, hb1.block⟩
      have hc1 := (HX.out w1 hb1).1
      have HS1 := Away.mk hs1; have HB1 := Away.mk hb1; have HI1 := Away.mk hI1
      clear hb1 hs1 hI1
      refine hK.out _ _ trivial (fun _ => ?_)
      clear hK K
      try simp only [Act.put, List.setIfInBounds_toArray, List.set_cons_zero, List.set_cons_succ]
      refine allReadyH_oneL (i := 3) (by kernel_rfl) rfl (by rfl) (fun K hK => ?_)
      go_simp
      refine (trimmed_read (.slice b nb cb) ys _ (HB.out.below HB1.out) hy (by omega)).mono ?_
      rintro _ w2 ⟨v2, us, rfl, hI2, hl2, hs2, hb2⟩
      refine hK.out _ _ trivial (fun _ => ?_)
      clear hK K
      refine wpAnyH_takeL (i := 4) (v := ?v4b) rfl (by kernel_rfl) (by kernel_rfl) (by kernel_rfl) (fun _ _ _ h => h) (by rfl) ?h4b trivial ?_
      case h4b => intro w hSw; go_simp <;> with_reducible rfl
      try simp only [Act.put, List.setIfInBounds_toArray, List.set_cons_zero, List.set_cons_succ]
      have hb2' : Below w0.heap.size w0 w2 := HB1.out.trans (hb2.mono HB1.out.size)
      have hc2 := (HX.out w2 hb2').1
      have hf2 := (HX.out w2 hb2').2
      obtain ⟨a2, c2, rfl, q3, r3⟩ := hs2.shapeC rfl
      refine allReadyH_oneL (i := 5) (by kernel_rfl) rfl (by rfl) (fun K hK => ?_)
      go_simp
      refine hK.out _ _ trivial (fun _ => ?_)
      clear hK K
      refine wpAnyH_done (by kernel_rfl) ?_ _
      refine NoPanic.normal ?_
      go_wp2_with fail
      go_meet
      case rel =>
        have hs1 := HS1.out.below hb2
        have hbB2 := bB.kept (grown_of_below hb2' none) (by simp)
        have hbR2 := bR.kept (grown_of_below hb2' none) (by simp)
        have hbw := HB0.out.trans (hb2'.mono HB0.out.size)
        have hg := grown_set w2 w.heap.size 0 (.slice a2 us.length c2)
        refine ⟨zs, us, _, HI1.out, hI2, hl1, hl2, ?_, ?_, hbB2.set _, hbR2.kept hg (by simp), hbw.setCell (p := ⟨w.heap.size, 0, none⟩) (Nat.le_refl _) _⟩
        · exact sl_box hs1 hbB2 hg
        · exact sl_box hs2 hbB2 hg
  case rest =>
    obtain ⟨zs, us, v2, hI1, hI2, hl1, hl2, hs1, hs2, bB2, bR2, hbw⟩ := hcut
    obtain ⟨n1, hn1⟩ : ∃ n, zs.length = n := ⟨_, rfl⟩
    obtain ⟨n2, hn2⟩ : ∃ n, us.length = n := ⟨_, rfl⟩
    obtain ⟨a1, c1, rfl, q3, r3⟩ := hs1.shapeC hn1
    obtain ⟨a2, c2, rfl, q4, r4⟩ := hs2.shapeC hn2
    have hc2 := bB2.cell
    have hc3 := bR2.cell
    have hf3 := bR2.frozen
    have hzl := hI1.2.1; have hul := hI2.2.1
    clear bB bR HA HB HX HB0 hsz
    by_cases hne : n1 = n2
    · subst hne
      have d1 : ((n1 : Int) != (n1 : Int)) = false := by simp
      go_wp2_with fail
      refine (down_any _ _ _ _).mono ?_
      rintro _ w' ⟨rfl, rfl⟩
      go_wp2
      have hS := Seen.of hs1 hn1 hzl
      have hB1 : Below w.heap.size w (wc.alloc (.cells #[.slice a1 n1 c1] 44)) := hbw.alloc hbw.size _
      have bB3 := bB2.alloc (.cells #[.slice a1 n1 c1] 44)
      have bR3 := bR2.alloc (.cells #[.slice a1 n1 c1] 44)
      have hs3 := hs2.below ((Below.refl _ wc).alloc (Nat.le_refl _) (.cells #[.slice a1 n1 c1] 44))
      refine range_down w wc.heap.size n1 c1 a1 (fun j z => z = zs.getD j 0) (by omega) rfl rfl hB1
        (fun W hW => hS.below hW (by simp) (fun b off hp e => by subst e; obtain ⟨b', off', e', hb', _⟩ := hs1.cells (by rw [C_length]; omega); cases e'; simp; omega))
        (fun pre W => (∀ p ∈ pre, us.getD p.1.1 0 = p.1.2) ∧ W.cell? ⟨w.heap.size, 0, none⟩ = some (.slice a2 n1 c2) ∧ (∀ i, i < n1 → ∃ b off, a2 = some ⟨b, off, none⟩ ∧ W.cell? ⟨b, off + i, none⟩ = some (.int .u32 (us.getD i 0 : Nat))) ∧ W.cell? ⟨w.heap.size + 1, 0, none⟩ = some (.int .i64 0) ∧ W.frozen? ⟨w.heap.size + 1, 0, none⟩ = false)
        (fun pre W => ∃ ini last, pre = ini ++ [last] ∧ (∀ p ∈ ini, us.getD p.1.1 0 = p.1.2) ∧ last.1.2 ≠ us.getD last.1.1 0 ∧ W.cell? ⟨w.heap.size + 1, 0, none⟩ = some (.int .i64 (cmpI last.1.2 (us.getD last.1.1 0))))
        (fun s A B row hs hg hr => ⟨hs.1, cell_kept hs.2.1 hg hr, fun i hi => by obtain ⟨b, off, e, h⟩ := hs.2.2.1 i hi; exact ⟨b, off, e, cell_kept h hg hr⟩, cell_kept hs.2.2.2.1 hg hr, (frozen_kept hs.2.2.2.1 hg hr).trans hs.2.2.2.2⟩)
        (fun s A B row hs hg hr => by obtain ⟨ini, last, e1, e2, e3, e4⟩ := hs; exact ⟨ini, last, e1, e2, e3, cell_kept e4 hg hr⟩)
        ⟨by simp, bB3.cell, fun i hi => by obtain ⟨b, off, e, hb, h⟩ := hs3.cells (by rw [C_length]; omega); exact ⟨b, off, e, h i _ (C_get _ (by omega))⟩, bR3.cell, bR3.frozen⟩
        (fun i z => { tmps := #[.slice a1 n1 c1, .slice b nb cb, undef, .pointer (some ⟨w.heap.size, 0, none⟩), .pointer (some ⟨w.heap.size + 1, 0, none⟩), .int .i64 (i : Int), .int .u32 (z : Int), ?t7, ?t8, ?t9, ?t10, .slice a1 n1 c1, .int .i64 n1, .slice a2 n1 c2, .int .i64 n1, .bool false, undef, undef, undef, undef, undef, .slice a1 n1 c1, .func (.func 70) #[] #[.pointer (some ⟨wc.heap.size, 0, none⟩)], .int .i64 (i : Int), .int .u32 (z : Int), undef, undef, undef, undef, undef, undef, undef, undef, undef, undef, undef, undef], defers := [] }) ?assign ?body ?done ?stop
      case assign =>
        intro l i z W K hK
        gi_wp2
        exact hK
      case body =>
        rintro l pre x i z W R HX hi hz HV ⟨hp, hcb, hcu, hcr, hfr⟩ hB HN HR
        obtain ⟨b2, off2, rfl, hcell⟩ := hcu i hi
        clear hS bB3 bR3 hB1 hs1 hs2 hs3
        have HP := Away.mk hp; have HU := Away.mk hcu
        have hub : us.getD i 0 < 4294967296 := hul.getD (by decide) i
        obtain ⟨y, hy⟩ : ∃ y, us.getD i 0 = y := ⟨_, rfl⟩
        rw [hy] at hcell hub
        have HY := Away.mk hy
        clear hp hcu hy
        by_cases h0 : z = y
        · subst h0
          have d0 : ((z : Int) != (z : Int)) = false := by simp
          gi_wp2
          exact HN.out _ _ (KeepsOthers.refl _) (fun h => h) ⟨fun p hp' => (List.mem_append.1 hp').elim (HP.out p) (fun e => by rw [List.mem_singleton.1 e, HX.out.1, HX.out.2]; exact HY.out), hcb, HU.out, hcr, hfr⟩ hB
        · have d0 : ((z : Int) != (y : Int)) = true := by simp; omega
          gi_wp2_with fail
          refine ⟨trivial, CallsIn.inRound l (callsIn_wide.2 ((compareU_any z y W).mono ?_))⟩
          rintro _ w' ⟨rfl, rfl⟩
          gi_wp2
          refine HR.out _ _ (KeepsOthers.setCell _ _ _) ⟨pre, x, rfl, HP.out, ?_, ?_⟩ (hB.setCell (p := ⟨w.heap.size + 1, 0, none⟩) (by simp) _)
          · rw [HX.out.1, HX.out.2, HY.out]; exact h0
          · rw [HX.out.1, HX.out.2, HY.out]; exact World.cell?_setCell_same' _ _ _ (by rw [hcr]; rfl)
      case done =>
        rintro D qs W hD hp ⟨h0, hcb, hcu, hcr, hfr⟩ hB hK
        go_wp2
        have hK' := (KeepsOthers.setCell W ⟨w.heap.size + 1, 0, none⟩ (.int .i64 0)).same D _ hK rfl
        refine ⟨by simp, .inl ⟨_, _, rfl, run_takeDeferred hK', ?_⟩⟩
        have hc5 := cell_kept (World.cell?_setCell_same' W ⟨w.heap.size + 1, 0, none⟩ (.int .i64 0) (by rw [hcr]; rfl)) (grownBy_putObj' _ D (.deferred none)) (fun r e => by cases e; exact ⟨_, hK', rfl⟩)
        have heq : val W32 xs = val W32 ys := by
          rw [← hI1.1, ← hI2.1]
          exact val_ext (same_at hn1 hn2 (Nat.le_refl _) qs hp h0)
        refine ⟨.int .i64 0, ?_, by rw [heq, cmpI_eq], below_shut (w := w) (hB.setCell (p := ⟨w.heap.size + 1, 0, none⟩) (by simp) _) (by have := hbw.size; simp at hD; omega) hK'⟩
        simp [results, Tryd.f49, go_sem, hc5]
      case stop =>
        rintro D k pre W hD hk hp ⟨ini, last, rfl, h0, h1, hcr⟩ hB hK
        go_wp2
        refine ⟨by simp, .inl ⟨_, _, rfl, run_takeDeferred hK, ?_⟩⟩
        have hc5 := cell_kept hcr (grownBy_putObj' _ D (.deferred none)) (fun r e => by cases e; exact ⟨_, hK, rfl⟩)
        obtain ⟨k', rfl, hp', hi⟩ := last_place hp
        have hV := last.2.2.2
        have hz := above_at hn1 hn2 (by omega) ini hp' h0
        rw [← hi] at hz
        rw [hV] at h1 hc5
        refine ⟨_, ?_, by rw [← hI1.1, ← hI2.1, cmp_at hzl hul _ hz, if_neg h1], below_shut (w := w) hB (by have := hbw.size; simp at hD; omega) hK⟩
        simp [results, Tryd.f49, go_sem, hc5]
    · have d1 : ((n1 : Int) != (n2 : Int)) = true := by simp; omega
      have hcmp : cmpI n1 n2 = cmpI (val W32 xs) (val W32 ys) := by
        rcases Nat.lt_or_ge n1 n2 with h | h
        · rw [cmpI_lt h, cmpI_lt]
          have := hI1.val_lt (by decide) (show zs.length ≤ n2 - 1 by omega)
          have := hI2.2.2 (by omega)
          rw [hn2] at this
          omega
        · rw [cmpI_gt (by omega), cmpI_gt]
          have := hI2.val_lt (by decide) (show us.length ≤ n1 - 1 by omega)
          have := hI1.2.2 (by omega)
          rw [hn1] at this
          omega
      have HC := Away.mk hcmp
      clear hcmp hI1 hI2 hs1 hs2
      go_wp2_with fail
      refine (compareI_any n1 n2 _).mono ?_
      rintro _ w' ⟨rfl, rfl⟩
      go_wp2
      have hc5 := World.cell?_setCell_same' wc ⟨w.heap.size + 1, 0, none⟩ (.int .i64 (cmpI n1 n2)) (by rw [hc3]; rfl)
      refine ⟨.int .i64 (cmpI n1 n2), ?_, by rw [HC.out], hbw.setCell (p := ⟨w.heap.size + 1, 0, none⟩) (by simp) _⟩
      simp [results, Tryd.f49, go_sem, hc5]
end Go.Proofs.YtdpahahfcdldcaaDoor
