/-
  A hash that goes on, by one kind of numbers: what it holds; bytes written, a twin, the hash told. Over this seat's translation. Conditions: as each says.
-/
import Derived.Test.YtmbaenodibfedaaDoorHshK
namespace Go.Proofs.YtmbaenodibfedaaDoor.S9
open Go.RowKit
set_option linter.unusedVariables false
set_option maxRecDepth 10000

theorem Tabs.kp {q : Nat} {r : Option Nat} {a b : World} (h : Tabs a) (hk : Kp q r a b) (hq : 2 ≤ q) (hr : ∀ k, r = some k → 2 ≤ k) : Tabs b := by
  have key : ∀ g, g < 2 → g < a.heap.size → b.heap[g]? = a.heap[g]? := fun g hg hl => hk.block g hl (by omega) (fun e => by have := hr g e.symm; omega)
  obtain ⟨⟨e1, f1, h1⟩, ⟨e2, f2, h2⟩⟩ := h
  exact ⟨⟨e1, f1, (key _ (by decide) (Array.getElem?_eq_some_iff.1 h1).1).trans h1⟩, ⟨e2, f2, (key _ (by decide) (Array.getElem?_eq_some_iff.1 h2).1).trans h2⟩⟩
namespace W1
/-- The struct's cells. -/
def cells (S : S1.S5) (v : Value) (all size : Nat) : List Value :=
  C .u32 S.list ++ [v, .int .u64 (all : Int), .int .i64 64, .int .i64 (size : Int), .func (.func 46) #[] #[], .func (.func 47) #[] #[]]
/-- Block q holds the numbers behind bs, and in the row of v what is behind the whole blocks; so many bytes are said to be written. -/
structure KI (w : World) (q : Nat) (v : Value) (s0 : S1.S5) (bs : List Nat) (all size : Nat) : Prop where
  at2 : 2 ≤ q
  row : Row w q 78 (cells (now S1.blk1 64 s0 bs) v all size)
  own : w.ownsRow 2 5 1 v (bs.length % 64) (C .u8 (rst 64 bs))
theorem now_ok {s0 : S1.S5} (h : s0.ok) (bs : List Nat) : (now S1.blk1 64 s0 bs).ok := by
  unfold now
  cases bs.length / 64 with
  | zero => exact h
  | succ n => exact S1.blk1_ok _ _
theorem rst_len (bs : List Nat) : (rst 64 bs).length = bs.length % 64 := rst_length 64 bs (by decide)
section
variable {w : World} {q : Nat} {S : S1.S5} {v : Value} {all size : Nat}
theorem cell_rest (h : Row w q 78 (cells S v all size)) : w.cell? ⟨q, 5, none⟩ = some v := by rw [h.cell]; rfl
theorem cell_all (h : Row w q 78 (cells S v all size)) : w.cell? ⟨q, 6, none⟩ = some (.int .u64 (all : Int)) := by rw [h.cell]; rfl
theorem cell_block (h : Row w q 78 (cells S v all size)) : w.cell? ⟨q, 7, none⟩ = some (.int .i64 64) := by rw [h.cell]; rfl
theorem cell_size (h : Row w q 78 (cells S v all size)) : w.cell? ⟨q, 8, none⟩ = some (.int .i64 (size : Int)) := by rw [h.cell]; rfl
theorem cell_take (h : Row w q 78 (cells S v all size)) : w.cell? ⟨q, 9, none⟩ = some (.func (.func 46) #[] #[]) := by rw [h.cell]; rfl
theorem cell_tell (h : Row w q 78 (cells S v all size)) : w.cell? ⟨q, 10, none⟩ = some (.func (.func 47) #[] #[]) := by rw [h.cell]; rfl
theorem set_all (h : Row w q 78 (cells S v all size)) (n : Nat) : Row (w.setCell ⟨q, 6, none⟩ (.int .u64 (n : Int))) q 78 (cells S v n size) := h.set 6 _
theorem set_rest (h : Row w q 78 (cells S v all size)) (x : Value) : Row (w.setCell ⟨q, 5, none⟩ x) q 78 (cells S x all size) := h.set 5 _
end
set_option maxHeartbeats 1600000 in
theorem write_any (q : Nat) (v : Value) (s0 : S1.S5) (hs0 : s0.ok) (bs : List Nat) (size : Nat) (w : World) (h : KI w q v s0 bs bs.length size) (hbs : Lo 256 bs)
    (bv : Value) (ys : List Nat) (hy : Lo 256 ys) (hsl : SlV w bv (C .u8 ys)) (hn1 : 0 < ys.length → bv.ownBlock ≠ some q) (hn2 : 0 < ys.length → bv.ownBlock = none ∨ bv.ownBlock ≠ v.ownBlock) (hm : bs.length + ys.length < 1152921504606846976) (hT : Tabs w) :
    Calls Tryd.prog 98 #[.pointer (some ⟨q, 0, none⟩), bv] w fun e w' => e = .returned (.tuple #[]) ∧ ∃ v', KI w' q v' s0 (bs ++ ys) (bs ++ ys).length size ∧ Kp q v.ownBlock w w' ∧ (v'.ownBlock = v.ownBlock ∨ ∀ k, v'.ownBlock = some k → w.heap.size ≤ k) := by
  obtain ⟨hq2, hrow, hown⟩ := h
  have hv20 : ∀ k, v.ownBlock = some k → 2 ≤ k := fun k hk => (hown.lt k hk).1
  obtain ⟨M, hM⟩ : ∃ M, ys.length = M := ⟨_, rfl⟩
  obtain ⟨A, hA⟩ : ∃ A, bs.length = A := ⟨_, rfl⟩
  rw [hA] at hrow
  obtain ⟨sa, sc, rfl, h1, h2⟩ := hsl.shp hM
  have hc1 := cell_all hrow
  have hf1 := hrow.frozen 6
  obtain ⟨G, hG⟩ : ∃ G, A + M = G := ⟨_, rfl⟩
  have hGm : G < 1152921504606846976 := by omega
  have hw1 : IntKind.u64.wrap (M : Int) = (M : Int) := by rw [IntKind.wrap_u64]; omega
  have hw2 : IntKind.u64.wrap ((A : Int) + (M : Int)) = (G : Int) := by rw [IntKind.wrap_u64]; omega
  have HM := Away.mk hm
  have HG := Away.mk hG
  have HGm := Away.mk hGm
  clear hm hG hGm
  have hrow1 := set_all hrow G
  have hkp1 : Kp q v.ownBlock w (w.setCell ⟨q, 6, none⟩ (.int .u64 (G : Int))) := (Kp.refl _ _ _).grown (grown_set w q 6 _) (fun k hk => .inl (by simpa using hk.symm))
  have hown1 := hown.kept (grown_set w q 6 (.int .u64 (G : Int))) (.inr (own_ne hown hrow (by decide)))
  go_enter Tryd.func98, Tryd.ntmps98
  go_wp2
  go_loopw [1] (fun bval wr => ∃ (c : Nat) (v' : Value), c ≤ M ∧ lenS bval = M - c ∧ SlV w bval (C .u8 (ys.drop c)) ∧ bval.ownBlock = (Value.slice sa M sc).ownBlock ∧ KI wr q v' s0 (bs ++ ys.take c) G size ∧ Kp q v.ownBlock w wr ∧ (v'.ownBlock = v.ownBlock ∨ ∀ k, v'.ownBlock = some k → w.heap.size ≤ k)) (fun bval _ => lenS bval)
  case atStart => exact ⟨0, v, Nat.zero_le _, rfl, hsl, rfl, ⟨hq2, by simpa using hrow1, by simpa using hown1⟩, hkp1, .inl rfl⟩
  case round =>
    clear hrow hown hrow1 hown1 hkp1 hc1 hf1 hw1 hw2
    obtain ⟨c, v', hc, hlen, hsw, hob, ⟨-, hrow, hown⟩, hkp, hvb⟩ := hrel
    obtain ⟨X, hX⟩ : ∃ X, bs ++ ys.take c = X := ⟨_, rfl⟩
    have hXl : X.length = A + c := by rw [← hX, List.length_append, List.length_take, hA, hM]; omega
    have hXb : Lo 256 X := by rw [← hX]; exact hbs.append (hy.take c)
    rw [hX] at hrow hown
    have HX := Away.mk hX
    clear hX
    obtain ⟨m, hm⟩ : ∃ m, M - c = m := ⟨_, rfl⟩
    obtain ⟨ba, bc, rfl, hb1, hb2⟩ := hsw.shp (n := m) (by rw [List.length_drop, hM, hm])
    by_cases hm0 : m = 0
    · subst hm0
      obtain rfl : c = M := by omega
      have hXe : X = bs ++ ys := by rw [← HX.out, List.take_of_length_le (Nat.le_of_eq hM)]
      have hGe : G = (bs ++ ys).length := by rw [← HG.out, List.length_append, hA, hM]
      subst hXe
      go_wp2
      go_returns
      exact ⟨rfl, v', ⟨hq2, by rw [← hGe]; exact hrow, hown⟩, hkp, hvb⟩
    obtain ⟨r, hr⟩ : ∃ r, X.length % 64 = r := ⟨_, rfl⟩
    rw [hr] at hown
    have hr1 : r < 64 := by omega
    obtain ⟨p, hp⟩ : ∃ p, 64 - r = p := ⟨_, rfl⟩
    have hpi : (64 : Int) - (r : Int) = (p : Int) := by omega
    have hmp : (0 : Int) < (m : Int) := by omega
    have hmx : (m : Int) ≤ 9223372036854775807 := by unfold maxLen at hb2; omega
    obtain ⟨ra, rc, rfl, hc1, hc2⟩ := (SlV.ofOwn hown).shp (n := r) (by rw [rst_len, hr])
    have hcr := cell_rest hrow
    have hcb := cell_block hrow
    obtain ⟨Y, hY⟩ : ∃ Y, now S1.blk1 64 s0 X = Y := ⟨_, rfl⟩
    have hYo : Y.ok := by rw [← hY]; exact now_ok hs0 X
    rw [hY] at hrow
    have HY := Away.mk hY
    clear hY
    have h2v : ∀ k, v.ownBlock = some k → 2 ≤ k := hv20
    by_cases hfull : p ≤ m
    · have hfi : (p : Int) ≤ (m : Int) := by omega
      go_wp2
      go_region
      obtain ⟨x2, hx2, hrx, hox, hkx⟩ : ∃ x2 : World, wr.drew = x2 ∧ Row x2 q 78 (cells Y (.slice ra r rc) G size) ∧ x2.ownsRow 2 5 1 (.slice ra r rc) r (C .u8 (rst 64 X)) ∧ Kp q v.ownBlock w x2 := ⟨_, rfl, hrow, hown, hkp.drew⟩
      rw [hx2]
      clear hx2 hrow hown hkp hcr hcb
      have hyp : 0 < ys.length := by omega
      have hsx := (hkx.sl hsw (by rw [hob]; exact hn1 hyp) (by rw [hob]; exact hn2 hyp)).upto p (by omega)
      rw [← C_take] at hsx
      obtain ⟨zs, hzs⟩ : ∃ zs, (ys.drop c).take p = zs := ⟨_, rfl⟩
      have hzl : zs.length = p := by rw [← hzs, List.length_take, List.length_drop, hM, hm]; omega
      rw [hzs] at hsx
      have HZ := Away.mk hzs
      have hzx : SlV x2.drew (.slice ba p bc) (C .u8 zs) := hsx
      have h2x : 2 ≤ x2.drew.heap.size := Nat.le_trans hq2 (Nat.le_of_lt hrx.drew.lt)
      have hni : (0 : Int) ≤ (p : Int) := by omega
      have hnm : p ≤ m := by omega
      have hnb : p ≤ bc := by omega
      clear hzs
      go_wp2_with fail
      refine wp_region_noPanic ?_
      refine wp_region_U (S := fun w' => w'.cell? ⟨q, 5, none⟩ = some (.slice ra r rc)) 11 (by kernel_rfl) (cell_rest hrx.drew) (fun hHeld => ?_)
      refine wpAnyU_takeL (i := 0) (v := ?v0r3f) rfl (by kernel_rfl) (by kernel_rfl) (by kernel_rfl) (by kernel_rfl) (fun _ _ _ h => h) (by rfl) ?h0r3f (by assumption) ?_
      case h0r3f => intro w hSw; go_simp <;> with_reducible rfl
      simp only [Act.put, List.setIfInBounds_toArray, List.set_cons_zero, List.set_cons_succ]
      refine wpAnyU_takeL (i := 1) (v := ?v1r3f) rfl (by kernel_rfl) (by kernel_rfl) (by kernel_rfl) (by kernel_rfl) (fun _ _ _ h => h) (by rfl) ?h1r3f (by assumption) ?_
      case h1r3f => intro w hSw; go_simp <;> with_reducible rfl
      simp only [Act.put, List.setIfInBounds_toArray, List.set_cons_zero, List.set_cons_succ]
      refine wpAnyU_takeL (i := 2) (v := ?v2r3f) rfl (by kernel_rfl) (by kernel_rfl) (by kernel_rfl) (by kernel_rfl) (fun _ _ _ h => h) (by rfl) ?h2r3f (by assumption) ?_
      case h2r3f => intro w hSw; go_simp <;> with_reducible rfl
      simp only [Act.put, List.setIfInBounds_toArray, List.set_cons_zero, List.set_cons_succ]
      refine wpAnyU_takeL (i := 3) (v := ?v3r3f) rfl (by kernel_rfl) (by kernel_rfl) (by kernel_rfl) (by kernel_rfl) (fun _ _ _ h => h) (by rfl) ?h3r3f (by assumption) ?_
      case h3r3f => intro w hSw; go_simp <;> with_reducible rfl
      simp only [Act.put, List.setIfInBounds_toArray, List.set_cons_zero, List.set_cons_succ]
      refine wpAnyU_takeL (i := 4) (v := (.slice ra r rc)) rfl (by kernel_rfl) (by kernel_rfl) (by kernel_rfl) (by kernel_rfl) (fun _ _ _ h => h) (by rfl) ?h4r3f (by assumption) ?_
      case h4r3f => intro w hSw; exact exec_load_cell 22 _ rfl rfl hSw Tryd.underlying22 rfl
      simp only [Act.put, List.setIfInBounds_toArray, List.set_cons_zero, List.set_cons_succ]
      refine wpAnyU_takeL (i := 5) (v := ?v5r3f) rfl (by kernel_rfl) (by kernel_rfl) (by kernel_rfl) (by kernel_rfl) (fun _ _ _ h => h) (by rfl) ?h5r3f (by assumption) ?_
      case h5r3f => intro w hSw; go_simp <;> with_reducible rfl
      simp only [Act.put, List.setIfInBounds_toArray, List.set_cons_zero, List.set_cons_succ]
      refine wpAnyU_takeL (i := 6) (v := ?v6r3f) rfl (by kernel_rfl) (by kernel_rfl) (by kernel_rfl) (by kernel_rfl) (fun _ _ _ h => h) (by rfl) ?h6r3f (by assumption) ?_
      case h6r3f => intro w hSw; go_simp <;> with_reducible rfl
      simp only [Act.put, List.setIfInBounds_toArray, List.set_cons_zero, List.set_cons_succ]
      refine wpAnyU_takeL (i := 7) (v := (.slice ba p bc)) rfl (by kernel_rfl) (by kernel_rfl) (by kernel_rfl) (by kernel_rfl) (fun _ _ _ h => h) (by rfl) ?h7r3f (by assumption) ?_
      case h7r3f => intro w hSw; go_simp; all_goals (rw [if_pos hnb])
      simp only [Act.put, List.setIfInBounds_toArray, List.set_cons_zero, List.set_cons_succ]
      refine wpAnyU_oneL (i := 8) (by kernel_rfl) rfl (by rfl) (fun K hK => ?_)
      refine wp_append_at _ _ 22 rfl 2 5 _ 1 Tryd.underlying22 S2.inf8 rfl (.slice ra r rc) r _ rfl hox.drew' _ (C .u8 zs) rfl hzx (C_one _ _) (by rw [C_length, hzl]; unfold maxLen; omega) (by rw [C_length, hzl]; omega) h2x ?_
      intro v2 w2 ho2 hg2 hv2
      have hR2 := hrx.drew.grown hg2 (fun e => own_ne hox.drew' hrx.drew (by decide) e.symm)
      have hS2 := cell_rest hR2
      refine hK.out _ _ (fun _ => hS2) (fun hHeld => ?_)
      clear hK K
      refine wpAnyU_oneL (i := 9) (by kernel_rfl) rfl (by rfl) (fun K hK => ?_)
      refine wp_value (.pointer (some ⟨q, 0, none⟩)) (by go_simp <;> with_reducible rfl) ?_
      refine hK.out _ _ (fun _ => hS2) (fun hHeld => ?_)
      clear hK K
      refine wpAnyU_oneL (i := 10) (by kernel_rfl) rfl (by rfl) (fun K hK => ?_)
      refine wp_value (.pointer (some ⟨q, 5, none⟩)) (by go_simp <;> with_reducible rfl) ?_
      refine hK.out _ _ (fun _ => hS2) (fun hHeld => ?_)
      clear hK K
      refine wpAnyU_oneL (i := 11) (by kernel_rfl) rfl (by rfl) (fun K hK => ?_)
      refine wp_store_cell 22 _ _ rfl q 5 v2 rfl rfl (own_cells ho2) (own_oneCell ho2) hR2 (by simp [cells, C, S1.S5.list]) (by kernel_rfl) ?_
      intro w3 hR3 hg3 hz3
      refine hK.out _ _ (fun hh => absurd rfl hh) (fun hHeld => ?_)
      clear hK K
      refine wpAnyU_done (by kernel_rfl) ?_ _
      refine NoPanic.normal ?_
      simp only [Act.put, List.setIfInBounds_toArray, List.set_cons_zero, List.set_cons_succ]
      rw [C_length, hzl, show r + p = 64 by omega, ← C_append] at ho2
      have hvq := own_ne ho2 hR2 (by decide)
      have ho3 := ho2.kept hg3 (.inr hvq)
      have hk2 : Kp q v.ownBlock w w2 := hkx.drew.grown hg2 (fun k hk => by
        rcases hvb with h | h
        · exact .inr (.inl (by rw [← hk, h]))
        · exact .inr (.inr (h k hk)))
      have hk3 : Kp q v.ownBlock w w3 := hk2.grown hg3 (fun k hk => .inl (by simpa using hk.symm))
      have hvb3 : v2.ownBlock = v.ownBlock ∨ ∀ k, v2.ownBlock = some k → w.heap.size ≤ k := by
        rcases hv2 with h | h
        · rw [h]; exact hvb
        · refine .inr (fun k hk => ?_)
          rw [h] at hk
          have := hkx.size
          simp only [Option.some.injEq] at hk
          have e : x2.drew.heap.size = x2.heap.size := rfl
          omega
      have hR3' : Row w3 q 78 (cells Y v2 G size) := hR3
      obtain ⟨ra2, rc2, rfl, hd1, hd2⟩ := (SlV.ofOwn ho3).shp (n := 64) (by rw [List.length_append, rst_len, hr, hzl]; omega)
      have hcut := hsw.cutIf p (m - p) (by omega)
      rw [← C_drop, ← C_take, List.drop_drop, List.take_of_length_le (by rw [List.length_drop, hM]; omega)] at hcut
      have hlb : lenS (Value.slice (if bc = p then ba else Option.map (fun x => x.add p) ba) (m - p) (bc - p)) = m - p := by simp [lenS]
      have hbb : (Value.slice (if bc = p then ba else Option.map (fun x => x.add p) ba) (m - p) (bc - p)).ownBlock = (Value.slice sa M sc).ownBlock := by rw [← hob]; exact cut_block
      have hXz : bs ++ ys.take (c + p) = X ++ zs := by rw [List.take_add, ← List.append_assoc, HX.out, HZ.out]
      have hXl' : (X ++ zs).length = A + c + p := by rw [List.length_append, hXl, hzl]
      have HXz := Away.mk hXz
      have HC := Away.mk hcut
      have HV := Away.mk hvb3
      have HK := Away.mk hk3
      clear hg2 hv2 hS2 hR2 hg3 hz3 hk2 ho2 hcut hXz hvb hvb3 hzx hsx hR3 hk3 hox hrx hkx
      have hcr := cell_rest hR3'
      have hcb := cell_block hR3'
      go_upto_region 5 with (fail)
      generalize (Value.slice (if bc = p then ba else Option.map (fun x => x.add p) ba) (m - p) (bc - p)) = bv2 at hlb hbb HC ⊢
      have HLB := Away.mk hlb
      have HBB := Away.mk hbb
      clear hlb hbb
      have hbi : ((64 : Int) == 64) = true := by decide
      go_region
      obtain ⟨x5, hx5, hR5, ho5', hk5⟩ : ∃ x5 : World, w3.drew = x5 ∧ Row x5 q 78 (cells Y (.slice ra2 64 rc2) G size) ∧ x5.ownsRow 2 5 1 (.slice ra2 64 rc2) 64 (C .u8 (rst 64 X ++ zs)) ∧ Kp q v.ownBlock w x5 := ⟨_, rfl, hR3', ho3, HK.out.drew⟩
      rw [hx5]
      clear hx5 hR3' ho3 hcr hcb
      have hlo : Lo 256 (rst 64 X ++ zs) := (rst_lo 64 hXb).append (by rw [← HZ.out]; exact (hy.drop _).take _)
      have hln : (rst 64 X ++ zs).length = 64 := by rw [List.length_append, rst_len, hr, hzl]; omega
      have hT5 : Tabs x5.drew := hT.kp hk5.drew hq2 h2v
      have ho5 := ho5'.drew'
      obtain ⟨F, hFe⟩ : ∃ F, S1.blk1 Y (rst 64 X ++ zs) = F := ⟨_, rfl⟩
      have HF := Away.mk hFe
      clear hFe
      go_wp2_with fail
      refine wp_region_noPanic ?_
      refine wp_region_U (S := fun w' => Row w' q 78 (cells Y (.slice ra2 64 rc2) G size)) 16 (by kernel_rfl) (hR5.drew) (fun hHeld => ?_)
      refine wpAnyU_takeL (i := 0) (v := ?v0r6) rfl (by kernel_rfl) (by kernel_rfl) (by kernel_rfl) (by kernel_rfl) (fun _ _ _ h => h) (by rfl) ?h0r6 (by assumption) ?_
      case h0r6 => intro w hSw; go_simp <;> with_reducible rfl
      simp only [Act.put, List.setIfInBounds_toArray, List.set_cons_zero, List.set_cons_succ]
      refine wpAnyU_takeL (i := 1) (v := ?v1r6) rfl (by kernel_rfl) (by kernel_rfl) (by kernel_rfl) (by kernel_rfl) (fun _ _ _ h => h) (by rfl) ?h1r6 (by assumption) ?_
      case h1r6 => intro w hSw; go_simp <;> with_reducible rfl
      simp only [Act.put, List.setIfInBounds_toArray, List.set_cons_zero, List.set_cons_succ]
      refine wpAnyU_takeL (i := 2) (v := ?v2r6) rfl (by kernel_rfl) (by kernel_rfl) (by kernel_rfl) (by kernel_rfl) (fun _ _ _ h => h) (by rfl) ?h2r6 (by assumption) ?_
      case h2r6 => intro w hSw; go_simp <;> with_reducible rfl
      simp only [Act.put, List.setIfInBounds_toArray, List.set_cons_zero, List.set_cons_succ]
      refine wpAnyU_takeL (i := 3) (v := ?v3r6) rfl (by kernel_rfl) (by kernel_rfl) (by kernel_rfl) (by kernel_rfl) (fun _ _ _ h => h) (by rfl) ?h3r6 (by assumption) ?_
      case h3r6 => intro w hSw; go_simp <;> with_reducible rfl
      simp only [Act.put, List.setIfInBounds_toArray, List.set_cons_zero, List.set_cons_succ]
      refine wpAnyU_takeL (i := 4) (v := (.func (.func 46) #[] #[])) rfl (by kernel_rfl) (by kernel_rfl) (by kernel_rfl) (by kernel_rfl) (fun _ _ _ h => h) (by rfl) ?h4r6 (by assumption) ?_
      case h4r6 => intro w hSw; exact exec_load_cell _ _ rfl rfl (cell_take hSw) Tryd.underlying73 rfl
      simp only [Act.put, List.setIfInBounds_toArray, List.set_cons_zero, List.set_cons_succ]
      refine wpAnyU_takeL (i := 5) (v := ?v5r6) rfl (by kernel_rfl) (by kernel_rfl) (by kernel_rfl) (by kernel_rfl) (fun _ _ _ h => h) (by rfl) ?h5r6 (by assumption) ?_
      case h5r6 => intro w hSw; go_simp <;> with_reducible rfl
      simp only [Act.put, List.setIfInBounds_toArray, List.set_cons_zero, List.set_cons_succ]
      refine wpAnyU_takeL (i := 6) (v := ?v6r6) rfl (by kernel_rfl) (by kernel_rfl) (by kernel_rfl) (by kernel_rfl) (fun _ _ _ h => h) (by rfl) ?h6r6 (by assumption) ?_
      case h6r6 => intro w hSw; go_simp <;> with_reducible rfl
      simp only [Act.put, List.setIfInBounds_toArray, List.set_cons_zero, List.set_cons_succ]
      refine wpAnyU_takeL (i := 7) (v := ?v7r6) rfl (by kernel_rfl) (by kernel_rfl) (by kernel_rfl) (by kernel_rfl) (fun _ _ _ h => h) (by rfl) ?h7r6 (by assumption) ?_
      case h7r6 => intro w hSw; go_simp <;> with_reducible rfl
      simp only [Act.put, List.setIfInBounds_toArray, List.set_cons_zero, List.set_cons_succ]
      refine wpAnyU_takeL (i := 8) (v := (.agg (C .u32 Y.list).toArray)) rfl (by kernel_rfl) (by kernel_rfl) (by kernel_rfl) (by kernel_rfl) (fun _ _ _ h => h) (by rfl) ?h8r6 (by assumption) ?_
      case h8r6 => intro w hSw; exact exec_load_head 59 _ rfl rfl (show Row _ _ _ (C .u32 Y.list ++ _) from hSw) Tryd.underlying59 S1.i5
      simp only [Act.put, List.setIfInBounds_toArray, List.set_cons_zero, List.set_cons_succ]
      refine wpAnyU_takeL (i := 9) (v := ?v9r6) rfl (by kernel_rfl) (by kernel_rfl) (by kernel_rfl) (by kernel_rfl) (fun _ _ _ h => h) (by rfl) ?h9r6 (by assumption) ?_
      case h9r6 => intro w hSw; go_simp <;> with_reducible rfl
      simp only [Act.put, List.setIfInBounds_toArray, List.set_cons_zero, List.set_cons_succ]
      refine wpAnyU_takeL (i := 10) (v := ?v10r6) rfl (by kernel_rfl) (by kernel_rfl) (by kernel_rfl) (by kernel_rfl) (fun _ _ _ h => h) (by rfl) ?h10r6 (by assumption) ?_
      case h10r6 => intro w hSw; go_simp <;> with_reducible rfl
      simp only [Act.put, List.setIfInBounds_toArray, List.set_cons_zero, List.set_cons_succ]
      refine wpAnyU_takeL (i := 11) (v := ?v11r6) rfl (by kernel_rfl) (by kernel_rfl) (by kernel_rfl) (by kernel_rfl) (fun _ _ _ h => h) (by rfl) ?h11r6 (by assumption) ?_
      case h11r6 => intro w hSw; go_simp <;> with_reducible rfl
      simp only [Act.put, List.setIfInBounds_toArray, List.set_cons_zero, List.set_cons_succ]
      refine wpAnyU_takeL (i := 12) (v := (.slice ra2 64 rc2)) rfl (by kernel_rfl) (by kernel_rfl) (by kernel_rfl) (by kernel_rfl) (fun _ _ _ h => h) (by rfl) ?h12r6 (by assumption) ?_
      case h12r6 => intro w hSw; exact exec_load_cell 22 _ rfl rfl (cell_rest hSw) Tryd.underlying22 rfl
      simp only [Act.put, List.setIfInBounds_toArray, List.set_cons_zero, List.set_cons_succ]
      refine wpAnyU_oneL (i := 13) (by kernel_rfl) rfl (by rfl) (fun K hK => ?_)
      go_simp
      refine (take_any Y hYo _ (rst 64 X ++ zs) hlo hln _ (SlV.ofOwn ho5) hT5).mono ?_
      rintro _ w6 ⟨rfl, hb6⟩
      rw [HF.out]
      have hR6 := hR5.drew.belowS hb6
      refine hK.out _ _ (fun _ => hR6) (fun hHeld => ?_)
      clear hK K
      refine wpAnyU_oneL (i := 14) (by kernel_rfl) rfl (by rfl) (fun K hK => ?_)
      refine wp_value (.pointer (some ⟨q, 0, none⟩)) (by go_simp <;> with_reducible rfl) ?_
      refine hK.out _ _ (fun _ => hR6) (fun hHeld => ?_)
      clear hK K
      refine wpAnyU_oneL (i := 15) (by kernel_rfl) rfl (by rfl) (fun K hK => ?_)
      refine wp_value (.pointer (some ⟨q, 0, none⟩)) (by go_simp <;> with_reducible rfl) ?_
      refine hK.out _ _ (fun _ => hR6) (fun hHeld => ?_)
      clear hK K
      refine wpAnyU_oneL (i := 16) (by kernel_rfl) rfl (by rfl) (fun K hK => ?_)
      refine wp_store_head 59 _ _ rfl q (C .u32 F.list) rfl rfl (show Row _ _ _ (C .u32 Y.list ++ _) from hR6) S1.i5 rfl (C_allL _ _) ?_
      intro w7 hR7 hg7 hz7
      refine hK.out _ _ (fun hh => absurd rfl hh) (fun hHeld => ?_)
      clear hK K
      refine wpAnyU_done (by kernel_rfl) ?_ _
      refine NoPanic.normal ?_
      simp only [Act.put, List.setIfInBounds_toArray, List.set_cons_zero, List.set_cons_succ]
      have hF := now_full S1.blk1 64 s0 X zs (by decide) (by rw [hr, hzl]; omega)
      have hR7' : Row w7 q 78 (cells (now S1.blk1 64 s0 (X ++ zs)) (.slice ra2 64 rc2) G size) := by rw [hF.1, HY.out, HF.out]; exact hR7
      have ho6 := own_below ho5 hb6
      have ho7 := ho6.kept hg7 (.inr (own_ne ho6 hR6 (by decide)))
      have hk7 : Kp q v.ownBlock w w7 := (hk5.drew.more hb6).grown hg7 (fun k hk => .inl (by simpa using hk.symm))
      clear hR5 ho5 ho5' hk5 hT5 hb6 hR6 hg7 hz7 hR7 ho6
      have hcr := cell_rest hR7'
      have hfr := hR7'.frozen 5
      have hR8 := set_rest hR7' (.slice ra2 0 rc2)
      have ho8 := (own_cut0 ho7).kept (grown_set w7 q 5 (.slice ra2 0 rc2)) (.inr (own_ne (own_cut0 ho7) hR7' (by decide)))
      have hk8 : Kp q v.ownBlock w (w7.setCell ⟨q, 5, none⟩ (.slice ra2 0 rc2)) := hk7.grown (grown_set w7 q 5 _) (fun k hk => .inl (by simpa using hk.symm))
      have hF2 := Away.mk hF.2
      clear hF ho7 hk7
      go_wp2
      go_roundw
      case rel =>
        refine ⟨c + p, .slice ra2 0 rc2, by omega, by rw [HLB.out]; omega, HC.out, HBB.out, ⟨hq2, by rw [HXz.out]; exact hR8, ?_⟩, hk8, ?_⟩
        · rw [HXz.out, hXl', hF2.out, show (A + c + p) % 64 = 0 by omega]; exact ho8
        · rcases HV.out with h | h
          · exact .inl (by rw [← h]; exact slice_block)
          · exact .inr (fun k hk => h k (by rw [← hk]; exact slice_block))
      case measure => rw [HLB.out]; simp only [lenS]; omega
    · have hfi : (m : Int) < (p : Int) := by omega
      have hfi' : ¬ (p : Int) ≤ (m : Int) := by omega
      obtain ⟨t, ht⟩ : ∃ t, r + m = t := ⟨_, rfl⟩
      have ht1 : t < 64 := by omega
      have htd : ((t : Int) == 64) = false := by simp; omega
      go_wp2
      go_region
      obtain ⟨x2, hx2, hrx, hox, hkx⟩ : ∃ x2 : World, wr.drew = x2 ∧ Row x2 q 78 (cells Y (.slice ra r rc) G size) ∧ x2.ownsRow 2 5 1 (.slice ra r rc) r (C .u8 (rst 64 X)) ∧ Kp q v.ownBlock w x2 := ⟨_, rfl, hrow, hown, hkp.drew⟩
      rw [hx2]
      clear hx2 hrow hown hkp hcr hcb
      have hyp : 0 < ys.length := by omega
      have hsx := (hkx.sl hsw (by rw [hob]; exact hn1 hyp) (by rw [hob]; exact hn2 hyp)).upto m (by omega)
      rw [← C_take] at hsx
      obtain ⟨zs, hzs⟩ : ∃ zs, (ys.drop c).take m = zs := ⟨_, rfl⟩
      have hzl : zs.length = m := by rw [← hzs, List.length_take, List.length_drop, hM, hm]; omega
      rw [hzs] at hsx
      have HZ := Away.mk hzs
      have hzx : SlV x2.drew (.slice ba m bc) (C .u8 zs) := hsx
      have h2x : 2 ≤ x2.drew.heap.size := Nat.le_trans hq2 (Nat.le_of_lt hrx.drew.lt)
      have hni : (0 : Int) ≤ (m : Int) := by omega
      have hnm : m ≤ m := by omega
      have hnb : m ≤ bc := by omega
      clear hzs
      go_wp2_with fail
      refine wp_region_noPanic ?_
      refine wp_region_U (S := fun w' => w'.cell? ⟨q, 5, none⟩ = some (.slice ra r rc)) 11 (by kernel_rfl) (cell_rest hrx.drew) (fun hHeld => ?_)
      refine wpAnyU_takeL (i := 0) (v := ?v0r3p) rfl (by kernel_rfl) (by kernel_rfl) (by kernel_rfl) (by kernel_rfl) (fun _ _ _ h => h) (by rfl) ?h0r3p (by assumption) ?_
      case h0r3p => intro w hSw; go_simp <;> with_reducible rfl
      simp only [Act.put, List.setIfInBounds_toArray, List.set_cons_zero, List.set_cons_succ]
      refine wpAnyU_takeL (i := 1) (v := ?v1r3p) rfl (by kernel_rfl) (by kernel_rfl) (by kernel_rfl) (by kernel_rfl) (fun _ _ _ h => h) (by rfl) ?h1r3p (by assumption) ?_
      case h1r3p => intro w hSw; go_simp <;> with_reducible rfl
      simp only [Act.put, List.setIfInBounds_toArray, List.set_cons_zero, List.set_cons_succ]
      refine wpAnyU_takeL (i := 2) (v := ?v2r3p) rfl (by kernel_rfl) (by kernel_rfl) (by kernel_rfl) (by kernel_rfl) (fun _ _ _ h => h) (by rfl) ?h2r3p (by assumption) ?_
      case h2r3p => intro w hSw; go_simp <;> with_reducible rfl
      simp only [Act.put, List.setIfInBounds_toArray, List.set_cons_zero, List.set_cons_succ]
      refine wpAnyU_takeL (i := 3) (v := ?v3r3p) rfl (by kernel_rfl) (by kernel_rfl) (by kernel_rfl) (by kernel_rfl) (fun _ _ _ h => h) (by rfl) ?h3r3p (by assumption) ?_
      case h3r3p => intro w hSw; go_simp <;> with_reducible rfl
      simp only [Act.put, List.setIfInBounds_toArray, List.set_cons_zero, List.set_cons_succ]
      refine wpAnyU_takeL (i := 4) (v := (.slice ra r rc)) rfl (by kernel_rfl) (by kernel_rfl) (by kernel_rfl) (by kernel_rfl) (fun _ _ _ h => h) (by rfl) ?h4r3p (by assumption) ?_
      case h4r3p => intro w hSw; exact exec_load_cell 22 _ rfl rfl hSw Tryd.underlying22 rfl
      simp only [Act.put, List.setIfInBounds_toArray, List.set_cons_zero, List.set_cons_succ]
      refine wpAnyU_takeL (i := 5) (v := ?v5r3p) rfl (by kernel_rfl) (by kernel_rfl) (by kernel_rfl) (by kernel_rfl) (fun _ _ _ h => h) (by rfl) ?h5r3p (by assumption) ?_
      case h5r3p => intro w hSw; go_simp <;> with_reducible rfl
      simp only [Act.put, List.setIfInBounds_toArray, List.set_cons_zero, List.set_cons_succ]
      refine wpAnyU_takeL (i := 6) (v := ?v6r3p) rfl (by kernel_rfl) (by kernel_rfl) (by kernel_rfl) (by kernel_rfl) (fun _ _ _ h => h) (by rfl) ?h6r3p (by assumption) ?_
      case h6r3p => intro w hSw; go_simp <;> with_reducible rfl
      simp only [Act.put, List.setIfInBounds_toArray, List.set_cons_zero, List.set_cons_succ]
      refine wpAnyU_takeL (i := 7) (v := (.slice ba m bc)) rfl (by kernel_rfl) (by kernel_rfl) (by kernel_rfl) (by kernel_rfl) (fun _ _ _ h => h) (by rfl) ?h7r3p (by assumption) ?_
      case h7r3p => intro w hSw; go_simp; all_goals (rw [if_pos hnb])
      simp only [Act.put, List.setIfInBounds_toArray, List.set_cons_zero, List.set_cons_succ]
      refine wpAnyU_oneL (i := 8) (by kernel_rfl) rfl (by rfl) (fun K hK => ?_)
      refine wp_append_at _ _ 22 rfl 2 5 _ 1 Tryd.underlying22 S2.inf8 rfl (.slice ra r rc) r _ rfl hox.drew' _ (C .u8 zs) rfl hzx (C_one _ _) (by rw [C_length, hzl]; unfold maxLen; omega) (by rw [C_length, hzl]; omega) h2x ?_
      intro v2 w2 ho2 hg2 hv2
      have hR2 := hrx.drew.grown hg2 (fun e => own_ne hox.drew' hrx.drew (by decide) e.symm)
      have hS2 := cell_rest hR2
      refine hK.out _ _ (fun _ => hS2) (fun hHeld => ?_)
      clear hK K
      refine wpAnyU_oneL (i := 9) (by kernel_rfl) rfl (by rfl) (fun K hK => ?_)
      refine wp_value (.pointer (some ⟨q, 0, none⟩)) (by go_simp <;> with_reducible rfl) ?_
      refine hK.out _ _ (fun _ => hS2) (fun hHeld => ?_)
      clear hK K
      refine wpAnyU_oneL (i := 10) (by kernel_rfl) rfl (by rfl) (fun K hK => ?_)
      refine wp_value (.pointer (some ⟨q, 5, none⟩)) (by go_simp <;> with_reducible rfl) ?_
      refine hK.out _ _ (fun _ => hS2) (fun hHeld => ?_)
      clear hK K
      refine wpAnyU_oneL (i := 11) (by kernel_rfl) rfl (by rfl) (fun K hK => ?_)
      refine wp_store_cell 22 _ _ rfl q 5 v2 rfl rfl (own_cells ho2) (own_oneCell ho2) hR2 (by simp [cells, C, S1.S5.list]) (by kernel_rfl) ?_
      intro w3 hR3 hg3 hz3
      refine hK.out _ _ (fun hh => absurd rfl hh) (fun hHeld => ?_)
      clear hK K
      refine wpAnyU_done (by kernel_rfl) ?_ _
      refine NoPanic.normal ?_
      simp only [Act.put, List.setIfInBounds_toArray, List.set_cons_zero, List.set_cons_succ]
      rw [C_length, hzl, show r + m = t by omega, ← C_append] at ho2
      have hvq := own_ne ho2 hR2 (by decide)
      have ho3 := ho2.kept hg3 (.inr hvq)
      have hk2 : Kp q v.ownBlock w w2 := hkx.drew.grown hg2 (fun k hk => by
        rcases hvb with h | h
        · exact .inr (.inl (by rw [← hk, h]))
        · exact .inr (.inr (h k hk)))
      have hk3 : Kp q v.ownBlock w w3 := hk2.grown hg3 (fun k hk => .inl (by simpa using hk.symm))
      have hvb3 : v2.ownBlock = v.ownBlock ∨ ∀ k, v2.ownBlock = some k → w.heap.size ≤ k := by
        rcases hv2 with h | h
        · rw [h]; exact hvb
        · refine .inr (fun k hk => ?_)
          rw [h] at hk
          have := hkx.size
          simp only [Option.some.injEq] at hk
          have e : x2.drew.heap.size = x2.heap.size := rfl
          omega
      have hR3' : Row w3 q 78 (cells Y v2 G size) := hR3
      obtain ⟨ra2, rc2, rfl, hd1, hd2⟩ := (SlV.ofOwn ho3).shp (n := t) (by rw [List.length_append, rst_len, hr, hzl]; omega)
      have hcut := hsw.cutIf m (m - m) (by omega)
      rw [← C_drop, ← C_take, List.drop_drop, List.take_of_length_le (by rw [List.length_drop, hM]; omega)] at hcut
      rw [Nat.sub_self] at hcut
      have hlb : lenS (Value.slice (if bc = m then ba else Option.map (fun x => x.add m) ba) 0 (bc - m)) = m - m := by simp [lenS]
      have hbb : (Value.slice (if bc = m then ba else Option.map (fun x => x.add m) ba) 0 (bc - m)).ownBlock = (Value.slice sa M sc).ownBlock := by rw [← hob]; exact cut_block
      have hXz : bs ++ ys.take (c + m) = X ++ zs := by rw [List.take_add, ← List.append_assoc, HX.out, HZ.out]
      have hXl' : (X ++ zs).length = A + c + m := by rw [List.length_append, hXl, hzl]
      have HXz := Away.mk hXz
      have HC := Away.mk hcut
      have HV := Away.mk hvb3
      have HK := Away.mk hk3
      clear hg2 hv2 hS2 hR2 hg3 hz3 hk2 ho2 hcut hXz hvb hvb3 hzx hsx hR3 hk3 hox hrx hkx
      have hcr := cell_rest hR3'
      have hcb := cell_block hR3'
      go_upto_region 5 with (fail)
      generalize (Value.slice (if bc = m then ba else Option.map (fun x => x.add m) ba) 0 (bc - m)) = bv2 at hlb hbb HC ⊢
      have HLB := Away.mk hlb
      have HBB := Away.mk hbb
      clear hlb hbb
      go_region
      go_wp2
      have hP := now_part S1.blk1 64 s0 X zs (by decide) (by rw [hr, hzl]; omega)
      go_roundw
      case rel =>
        refine ⟨c + m, .slice ra2 t rc2, by omega, by rw [HLB.out]; omega, HC.out, HBB.out, ⟨hq2, by rw [HXz.out, hP.1, HY.out]; exact hR3', ?_⟩, HK.out.drew, HV.out⟩
        · rw [HXz.out, hXl', hP.2, show (A + c + m) % 64 = t by omega]; exact ho3
      case measure => rw [HLB.out]; simp only [lenS]; omega
end W1
end Go.Proofs.YtmbaenodibfedaaDoor.S9
