/-
  A hash that goes on: twin, copy, length, the hash told; New, Write, Sum, Len, Copy: six texts in one. Conditions: as each says.
-/
import Derived.Test.YtmbaenodibfedaaDoorHsW1
import Derived.Test.YtmbaenodibfedaaDoorHsW2
import Derived.Test.YtmbaenodibfedaaDoorHsW3
import Derived.Test.YtmbaenodibfedaaDoorLay9
namespace Go.Proofs.YtmbaenodibfedaaDoor.S9
open Go.RowKit
set_option linter.unusedVariables false
set_option maxRecDepth 10000

theorem cn_lo (B c : Nat) : Lo 256 (cn B c) := by
  have h8 : Lo 256 (S1.be8 c) := by
    intro x hx
    simp only [S1.be8, List.mem_cons, List.not_mem_nil, or_false] at hx
    rcases hx with rfl | rfl | rfl | rfl | rfl | rfl | rfl | rfl <;> exact Nat.mod_lt _ (by decide)
  unfold cn
  split
  · exact S3.cnt_lo c
  · exact h8
theorem pdg_lo (B c x : Nat) : Lo 256 (pdg B c x) := by
  intro y hy
  rcases List.mem_cons.1 hy with rfl | hy
  · decide
  · rcases List.mem_append.1 hy with hy | hy
    · exact Z_lo (by decide) _ y hy
    · exact cn_lo _ _ y hy
theorem pdg_length (B c x : Nat) (hB : 0 < B) (h2 : B ≤ 128) : (pdg B c x).length ≤ 200 := by
  have := Nat.mod_lt (B - (x + (c + 1)) % B) hB
  have h3 := cn_length B (8 * x)
  unfold pdg
  rw [List.length_cons, List.length_append, Z_length, h3]
  split <;> omega

namespace W1
/-- The struct, made. -/
def zcells : List Value := C .u32 (Z 5) ++ [Value.slice none 0 0, .int .u64 0, .int .i64 0, .int .i64 0, .nilFunc, .nilFunc]
theorem zT (w : World) : (zeroValue 78).run Tryd.prog w = .ok (.agg zcells.toArray) w := by kernel_rfl
theorem iT : (Tryd.prog.info? 78).map (·.size) = some (5 + 6) := by kernel_rfl
theorem cells_one (S : S1.S5) {v : Value} (hv : v.oneCell' = true) (all size : Nat) : (cells S v all size).all (·.oneCell') = true := by
  unfold cells
  rw [List.all_append, C_allL, List.all_cons, hv]
  rfl
theorem KI.below {w w' : World} {q : Nat} {v : Value} {s0 : S1.S5} {bs : List Nat} {all size : Nat} (h : KI w q v s0 bs all size) (hb : Below w.heap.size w w') : KI w' q v s0 bs all size :=
  ⟨h.at2, h.row.belowS hb, own_below h.own hb⟩
theorem KI.kp {w w' : World} {q q2 : Nat} {v : Value} {r : Option Nat} {s0 : S1.S5} {bs : List Nat} {all size : Nat} (h : KI w q v s0 bs all size) (hk : Kp q2 r w w') (h1 : q ≠ q2) (h2 : some q ≠ r) (h3 : v.ownBlock ≠ some q2) (h4 : v.ownBlock = none ∨ v.ownBlock ≠ r) : KI w' q v s0 bs all size :=
  ⟨h.at2, hk.row h.row h1 h2, hk.own h.own h3 h4⟩
theorem twin_any (q : Nat) (v : Value) (s0 : S1.S5) (bs : List Nat) (all size : Nat) (w : World) (h : KI w q v s0 bs all size) :
    Calls Tryd.prog 99 #[.pointer (some ⟨q, 0, none⟩)] w fun e w' => ∃ q' v', e = .returned (.pointer (some ⟨q', 0, none⟩)) ∧ KI w' q' v' s0 bs all size ∧ w.heap.size ≤ q' ∧ (∀ k, v'.ownBlock = some k → w.heap.size ≤ k) ∧ Below w.heap.size w w' := by
  obtain ⟨hq2, hrow, hown⟩ := h
  obtain ⟨Y, hY⟩ : ∃ Y, now S1.blk1 64 s0 bs = Y := ⟨_, rfl⟩
  rw [hY] at hrow
  have HY := Away.mk hY
  clear hY
  have h2w : 2 ≤ w.heap.size := Nat.le_trans hq2 (Nat.le_of_lt hrow.lt)
  have hN := Row.new w 78 zcells
  have hL := Below.more (Below.refl w.heap.size w) (Nat.le_refl _) (.cells zcells.toArray 78)
  have h1 := cells_one Y (own_oneCell hown) all size
  have hi1 : (Tryd.prog.info? 78).map (·.size) = some (cells Y v all size).toArray.size := iT
  have hi2 : (Tryd.prog.info? 78).map (·.size) = some (cells Y v all size).length := iT
  have ho2 : zcells.length = (cells Y v all size).length := rfl
  go_enter Tryd.func99, Tryd.ntmps99
  go_upto_region 2 with (first | refine wpList_load_row rfl 78 _ rfl _ rfl _ _ _ _ hrow Tryd.underlying78 rfl hi1 ?_ | refine wpList_alloc_row rfl 78 rfl _ zT ?_ | (refine wpList_store_R rfl 78 _ _ rfl _ (cells Y v all size) rfl rfl hN hi2 ho2 h1 ?_; intro w2 hR2 hg2 hz2))
  have hL2 := below_grown hL.1 hg2 (Nat.le_refl _) hN.lt
  have hrow2 := hrow.belowS hL2
  have hown2 := own_below hown hL2
  have hcr := cell_rest hrow2
  clear hN hL hg2 hz2 h1 hi1 hi2 ho2 hrow
  go_wp2_with fail
  refine (clone_any v (rst 64 bs) _ (SlV.ofOwn hown2) (by rw [rst_len]; omega)).mono ?_
  rintro _ w3 ⟨v3, rfl, ho3, hb3⟩
  rw [rst_len] at ho3
  obtain ⟨a3, c3, rfl, hs1, hs2⟩ := (SlV.ofOwn ho3).shp (n := bs.length % 64) (rst_len bs)
  have hR3 := hR2.belowS hb3
  have hL3 := hL2.trans (hb3.mono hL2.size)
  have hsz := hL2.size
  have hfr := hR3.frozen 5
  have hcr3 := cell_rest hR3
  have hR4 := set_rest hR3 (.slice a3 (bs.length % 64) c3)
  have ho4 := ho3.kept (grown_set w3 w.heap.size 5 (.slice a3 (bs.length % 64) c3)) (.inr (own_ne ho3 hR3 (by decide)))
  have hvl : ∀ k, (Value.slice a3 (bs.length % 64) c3).ownBlock = some k → w.heap.size ≤ k := fun k hk => Nat.le_trans hsz (ho3.lt k hk).1
  have hL4 := below_setCell hL3 (Nat.le_refl w.heap.size) (i := 5) (.slice a3 (bs.length % 64) c3)
  clear hR2 hb3 hL2 hL3 hrow2 hown2 hcr hown
  go_wp2
  go_ret
  exact ⟨_, _, rfl, ⟨h2w, by rw [HY.out]; exact hR4, own_base ho4 (by omega)⟩, Nat.le_refl _, hvl, hL4⟩
theorem copied_any (q : Nat) (v : Value) (s0 : S1.S5) (bs : List Nat) (all size : Nat) (w : World) (h : KI w q v s0 bs all size) :
    Calls Tryd.prog 95 #[.pointer (some ⟨q, 0, none⟩)] w fun e w' => ∃ q' v', e = .returned (.iface 75 (.pointer (some ⟨q', 0, none⟩))) ∧ KI w' q' v' s0 bs all size ∧ w.heap.size ≤ q' ∧ (∀ k, v'.ownBlock = some k → w.heap.size ≤ k) ∧ Below w.heap.size w w' := by
  go_enter Tryd.func95, Tryd.ntmps95
  go_wp2_with fail
  refine (twin_any q v s0 bs all size w h).mono ?_
  rintro _ w2 ⟨q2, v2, rfl, hI, hq, hv, hb⟩
  clear h
  go_wp2
  go_ret
  exact ⟨_, _, rfl, hI, hq, hv, hb⟩
theorem length_any (q : Nat) (v : Value) (s0 : S1.S5) (bs : List Nat) (all size : Nat) (w : World) (h : KI w q v s0 bs all size) :
    Calls Tryd.prog 96 #[.pointer (some ⟨q, 0, none⟩)] w fun e w' => e = .returned (.int .u64 (all : Int)) ∧ w = w' := by
  have hc := cell_all h.row
  clear h
  go_enter Tryd.func96, Tryd.ntmps96
  go_wp2
  go_ret
  exact ⟨rfl, rfl⟩
theorem pad_ne {w' : World} {base n q : Nat} {v : Value} {xs : List Value} (h : w'.ownsRow base 5 1 v n xs) (hq : q < base) : v.ownBlock ≠ some q := fun e => by
  have := (h.lt q e).1
  omega
theorem pad_ne2 {w w' : World} {base n b2 n2 : Nat} {e2 : TypeId} {v v2 : Value} {xs ys : List Value} (h : w'.ownsRow base 5 1 v n xs) (h2 : w.ownsRow b2 e2 1 v2 n2 ys) (hb : w.heap.size ≤ base) : v.ownBlock = none ∨ v.ownBlock ≠ v2.ownBlock := by
  by_cases hn : v.ownBlock = none
  · exact .inl hn
  · obtain ⟨k, hk⟩ := Option.ne_none_iff_exists'.1 hn
    refine .inr (fun e => ?_)
    have h3 := (h.lt k hk).1
    have h4 := (h2.lt k (e ▸ hk)).2
    omega
set_option maxHeartbeats 800000 in
theorem sum_any (q : Nat) (v : Value) (s0 : S1.S5) (hs0 : s0.ok) (bs : List Nat) (hbs : Lo 256 bs) (hm : bs.length < 1152921504606846000) (size : Nat) (hsz : size ≤ 20) (w : World) (h : KI w q v s0 bs bs.length size) (hT : Tabs w) :
    Calls Tryd.prog 97 #[.pointer (some ⟨q, 0, none⟩)] w fun e w' => ∃ v', e = .returned v' ∧ w'.ownsRow w.heap.size 5 1 v' size (C .u8 ((S1.out1 (now S1.blk1 64 s0 (bs ++ pdg 64 8 bs.length))).take size)) ∧ Below w.heap.size w w' := by
  obtain ⟨n, hn⟩ : ∃ n, bs.length = n := ⟨_, rfl⟩
  go_enter Tryd.func97, Tryd.ntmps97
  go_wp2_with fail
  refine (twin_any q v s0 bs _ size w h).mono ?_
  rintro _ w1 ⟨q1, v1, rfl, hI1, hq1, hv1, hb1⟩
  have hI := h.below hb1
  have hT1 := hT.below hb1
  have hqlt := h.row.lt
  have hca := cell_all hI.row
  have hcb := cell_block hI.row
  clear h
  have hca' : w1.cell? ⟨q, 6, none⟩ = some (.int .u64 (n : Int)) := by rw [← hn]; exact hca
  have hm' : n < 1152921504606846000 := by omega
  have hbsn := Away.mk hn
  have hmA := Away.mk hm
  have hmA' := Away.mk hm'
  have hq11 := hI1.row.lt
  clear hca hn hm hm'
  go_wp2_with fail
  go_region_with (first
    | (go_at_call 100; refine (padding_small n hmA'.out _).mono ?_; rintro _ w2 ⟨pv, pn, rfl, hpo, hb2⟩)
    | (go_at_call 98; refine (write_any q1 v1 s0 hs0 bs size _ (hI1.below (below_of_drew hb2)) hbs pv (pdg 64 8 n) (pdg_lo _ _ _) (SlV.ofOwn hpo) (fun _ => pad_ne hpo hq11) (fun _ => pad_ne2 hpo hI1.own (Nat.le_refl _)) (by have := hmA.out; have := pdg_length 64 8 n (by decide) (by decide); omega) (hT1.below (below_of_drew hb2))).mono ?_; rintro _ w3 ⟨rfl, v3, hI3, hk3, hv3⟩))
  all_goals (
    have hb3 : Below w.heap.size w w3 := Kp.below (hb1.trans ((below_of_drew hb2).mono hb1.size)) hk3 (Nat.le_trans hb1.size (below_of_drew hb2).size) hq1 hv1
    obtain ⟨hq12, hrow3, hown3⟩ := hI3
    obtain ⟨G, hG⟩ : ∃ G, (bs ++ pdg 64 8 n).length = G := ⟨_, rfl⟩
    obtain ⟨Y, hY⟩ : ∃ Y, now S1.blk1 64 s0 (bs ++ pdg 64 8 n) = Y := ⟨_, rfl⟩
    have hYo : Y.ok := by rw [← hY]; exact now_ok hs0 _
    rw [hG, hY] at hrow3
    have HY := Away.mk hY
    clear hG hY hI1 hI hT1 hca' hcb hpo hb2 hk3 hv3 hown3
    go_wp2_with fail
    refine wp_region_noPanic ?_
    refine wp_region_held_drew (S := fun w' => Row w' q1 78 (cells Y v3 G size)) (by kernel_rfl) (hrow3.drew) (fun hHeld => ?_)
    refine wpAnyH_takeL (i := 0) (v := ?v0s3) rfl (by kernel_rfl) (by kernel_rfl) (by kernel_rfl) (fun _ _ _ h => h) (by rfl) ?h0s3 (by assumption) ?_
    case h0s3 => intro w hSw; go_simp <;> with_reducible rfl
    simp only [Act.put, List.setIfInBounds_toArray, List.set_cons_zero, List.set_cons_succ]
    refine wpAnyH_takeL (i := 1) (v := ?v1s3) rfl (by kernel_rfl) (by kernel_rfl) (by kernel_rfl) (fun _ _ _ h => h) (by rfl) ?h1s3 (by assumption) ?_
    case h1s3 => intro w hSw; go_simp <;> with_reducible rfl
    simp only [Act.put, List.setIfInBounds_toArray, List.set_cons_zero, List.set_cons_succ]
    refine wpAnyH_takeL (i := 2) (v := ?v2s3) rfl (by kernel_rfl) (by kernel_rfl) (by kernel_rfl) (fun _ _ _ h => h) (by rfl) ?h2s3 (by assumption) ?_
    case h2s3 => intro w hSw; go_simp <;> with_reducible rfl
    simp only [Act.put, List.setIfInBounds_toArray, List.set_cons_zero, List.set_cons_succ]
    refine wpAnyH_takeL (i := 3) (v := (.func (.func 47) #[] #[])) rfl (by kernel_rfl) (by kernel_rfl) (by kernel_rfl) (fun _ _ _ h => h) (by rfl) ?h3s3 (by assumption) ?_
    case h3s3 => intro w hSw; exact exec_load_cell _ _ rfl rfl (cell_tell hSw) Tryd.underlying76 rfl
    simp only [Act.put, List.setIfInBounds_toArray, List.set_cons_zero, List.set_cons_succ]
    refine wpAnyH_takeL (i := 4) (v := ?v4s3) rfl (by kernel_rfl) (by kernel_rfl) (by kernel_rfl) (fun _ _ _ h => h) (by rfl) ?h4s3 (by assumption) ?_
    case h4s3 => intro w hSw; go_simp <;> with_reducible rfl
    simp only [Act.put, List.setIfInBounds_toArray, List.set_cons_zero, List.set_cons_succ]
    refine wpAnyH_takeL (i := 5) (v := ?v5s3) rfl (by kernel_rfl) (by kernel_rfl) (by kernel_rfl) (fun _ _ _ h => h) (by rfl) ?h5s3 (by assumption) ?_
    case h5s3 => intro w hSw; go_simp <;> with_reducible rfl
    simp only [Act.put, List.setIfInBounds_toArray, List.set_cons_zero, List.set_cons_succ]
    refine wpAnyH_takeL (i := 6) (v := ?v6s3) rfl (by kernel_rfl) (by kernel_rfl) (by kernel_rfl) (fun _ _ _ h => h) (by rfl) ?h6s3 (by assumption) ?_
    case h6s3 => intro w hSw; go_simp <;> with_reducible rfl
    simp only [Act.put, List.setIfInBounds_toArray, List.set_cons_zero, List.set_cons_succ]
    refine wpAnyH_takeL (i := 7) (v := (.agg (C .u32 Y.list).toArray)) rfl (by kernel_rfl) (by kernel_rfl) (by kernel_rfl) (fun _ _ _ h => h) (by rfl) ?h7s3 (by assumption) ?_
    case h7s3 => intro w hSw; exact exec_load_head 59 _ rfl rfl (show Row _ _ _ (C .u32 Y.list ++ _) from hSw) Tryd.underlying59 S1.i5
    simp only [Act.put, List.setIfInBounds_toArray, List.set_cons_zero, List.set_cons_succ]
    refine wpAnyH_takeL (i := 8) (v := ?v8s3) rfl (by kernel_rfl) (by kernel_rfl) (by kernel_rfl) (fun _ _ _ h => h) (by rfl) ?h8s3 (by assumption) ?_
    case h8s3 => intro w hSw; go_simp <;> with_reducible rfl
    simp only [Act.put, List.setIfInBounds_toArray, List.set_cons_zero, List.set_cons_succ]
    refine wpAnyH_takeL (i := 9) (v := ?v9s3) rfl (by kernel_rfl) (by kernel_rfl) (by kernel_rfl) (fun _ _ _ h => h) (by rfl) ?h9s3 (by assumption) ?_
    case h9s3 => intro w hSw; go_simp <;> with_reducible rfl
    simp only [Act.put, List.setIfInBounds_toArray, List.set_cons_zero, List.set_cons_succ]
    refine wpAnyH_takeL (i := 10) (v := ?v10s3) rfl (by kernel_rfl) (by kernel_rfl) (by kernel_rfl) (fun _ _ _ h => h) (by rfl) ?h10s3 (by assumption) ?_
    case h10s3 => intro w hSw; go_simp <;> with_reducible rfl
    simp only [Act.put, List.setIfInBounds_toArray, List.set_cons_zero, List.set_cons_succ]
    refine wpAnyH_takeL (i := 11) (v := (.int .i64 (size : Int))) rfl (by kernel_rfl) (by kernel_rfl) (by kernel_rfl) (fun _ _ _ h => h) (by rfl) ?h11s3 (by assumption) ?_
    case h11s3 => intro w hSw; exact exec_load_cell 3 _ rfl rfl (cell_size hSw) Tryd.underlying3 rfl
    simp only [Act.put, List.setIfInBounds_toArray, List.set_cons_zero, List.set_cons_succ]
    refine allReadyH_oneL (i := 12) (by kernel_rfl) rfl (by rfl) (fun K hK => ?_)
    go_simp
    refine (tells_any Y hYo size hsz _).mono ?_
    rintro _ w4 ⟨v4, rfl, ho4, hb4⟩
    have hR4 := hrow3.drew.belowS hb4
    refine hK.out _ _ (hR4) (fun hHeld => ?_)
    clear hK K
    refine allReadyH_oneL (i := 13) (by kernel_rfl) rfl (by rfl) (fun K hK => ?_)
    refine wp_value v4 (by go_simp <;> with_reducible rfl) ?_
    refine hK.out _ _ (hR4) (fun hHeld => ?_)
    clear hK K
    refine wpAnyH_done (by kernel_rfl) ?_ _
    refine NoPanic.normal ?_
    simp only [Act.put, List.setIfInBounds_toArray, List.set_cons_zero, List.set_cons_succ]
    have hb5 := hb3.trans ((below_of_drew hb4).mono hb3.size)
    have ho5 := own_base ho4 (show w.heap.size ≤ w3.drew.heap.size from hb3.size)
    go_wp2
    go_ret
    exact ⟨_, rfl, by rw [hbsn.out, HY.out]; exact ho5, hb5⟩)
end W1
namespace W2
/-- The struct, made. -/
def zcells : List Value := C .u32 (Z 8) ++ [Value.slice none 0 0, .int .u64 0, .int .i64 0, .int .i64 0, .nilFunc, .nilFunc]
theorem zT (w : World) : (zeroValue 82).run Tryd.prog w = .ok (.agg zcells.toArray) w := by kernel_rfl
theorem iT : (Tryd.prog.info? 82).map (·.size) = some (8 + 6) := by kernel_rfl
theorem cells_one (S : S2.S8) {v : Value} (hv : v.oneCell' = true) (all size : Nat) : (cells S v all size).all (·.oneCell') = true := by
  unfold cells
  rw [List.all_append, C_allL, List.all_cons, hv]
  rfl
theorem KI.below {w w' : World} {q : Nat} {v : Value} {s0 : S2.S8} {bs : List Nat} {all size : Nat} (h : KI w q v s0 bs all size) (hb : Below w.heap.size w w') : KI w' q v s0 bs all size :=
  ⟨h.at2, h.row.belowS hb, own_below h.own hb⟩
theorem KI.kp {w w' : World} {q q2 : Nat} {v : Value} {r : Option Nat} {s0 : S2.S8} {bs : List Nat} {all size : Nat} (h : KI w q v s0 bs all size) (hk : Kp q2 r w w') (h1 : q ≠ q2) (h2 : some q ≠ r) (h3 : v.ownBlock ≠ some q2) (h4 : v.ownBlock = none ∨ v.ownBlock ≠ r) : KI w' q v s0 bs all size :=
  ⟨h.at2, hk.row h.row h1 h2, hk.own h.own h3 h4⟩
theorem twin_any (q : Nat) (v : Value) (s0 : S2.S8) (bs : List Nat) (all size : Nat) (w : World) (h : KI w q v s0 bs all size) :
    Calls Tryd.prog 106 #[.pointer (some ⟨q, 0, none⟩)] w fun e w' => ∃ q' v', e = .returned (.pointer (some ⟨q', 0, none⟩)) ∧ KI w' q' v' s0 bs all size ∧ w.heap.size ≤ q' ∧ (∀ k, v'.ownBlock = some k → w.heap.size ≤ k) ∧ Below w.heap.size w w' := by
  obtain ⟨hq2, hrow, hown⟩ := h
  obtain ⟨Y, hY⟩ : ∃ Y, now S2.blk2 64 s0 bs = Y := ⟨_, rfl⟩
  rw [hY] at hrow
  have HY := Away.mk hY
  clear hY
  have h2w : 2 ≤ w.heap.size := Nat.le_trans hq2 (Nat.le_of_lt hrow.lt)
  have hN := Row.new w 82 zcells
  have hL := Below.more (Below.refl w.heap.size w) (Nat.le_refl _) (.cells zcells.toArray 82)
  have h1 := cells_one Y (own_oneCell hown) all size
  have hi1 : (Tryd.prog.info? 82).map (·.size) = some (cells Y v all size).toArray.size := iT
  have hi2 : (Tryd.prog.info? 82).map (·.size) = some (cells Y v all size).length := iT
  have ho2 : zcells.length = (cells Y v all size).length := rfl
  go_enter Tryd.func106, Tryd.ntmps106
  go_upto_region 2 with (first | refine wpList_load_row rfl 82 _ rfl _ rfl _ _ _ _ hrow Tryd.underlying82 rfl hi1 ?_ | refine wpList_alloc_row rfl 82 rfl _ zT ?_ | (refine wpList_store_R rfl 82 _ _ rfl _ (cells Y v all size) rfl rfl hN hi2 ho2 h1 ?_; intro w2 hR2 hg2 hz2))
  have hL2 := below_grown hL.1 hg2 (Nat.le_refl _) hN.lt
  have hrow2 := hrow.belowS hL2
  have hown2 := own_below hown hL2
  have hcr := cell_rest hrow2
  clear hN hL hg2 hz2 h1 hi1 hi2 ho2 hrow
  go_wp2_with fail
  refine (clone_any v (rst 64 bs) _ (SlV.ofOwn hown2) (by rw [rst_len]; omega)).mono ?_
  rintro _ w3 ⟨v3, rfl, ho3, hb3⟩
  rw [rst_len] at ho3
  obtain ⟨a3, c3, rfl, hs1, hs2⟩ := (SlV.ofOwn ho3).shp (n := bs.length % 64) (rst_len bs)
  have hR3 := hR2.belowS hb3
  have hL3 := hL2.trans (hb3.mono hL2.size)
  have hsz := hL2.size
  have hfr := hR3.frozen 8
  have hcr3 := cell_rest hR3
  have hR4 := set_rest hR3 (.slice a3 (bs.length % 64) c3)
  have ho4 := ho3.kept (grown_set w3 w.heap.size 8 (.slice a3 (bs.length % 64) c3)) (.inr (own_ne ho3 hR3 (by decide)))
  have hvl : ∀ k, (Value.slice a3 (bs.length % 64) c3).ownBlock = some k → w.heap.size ≤ k := fun k hk => Nat.le_trans hsz (ho3.lt k hk).1
  have hL4 := below_setCell hL3 (Nat.le_refl w.heap.size) (i := 8) (.slice a3 (bs.length % 64) c3)
  clear hR2 hb3 hL2 hL3 hrow2 hown2 hcr hown
  go_wp2
  go_ret
  exact ⟨_, _, rfl, ⟨h2w, by rw [HY.out]; exact hR4, own_base ho4 (by omega)⟩, Nat.le_refl _, hvl, hL4⟩
theorem copied_any (q : Nat) (v : Value) (s0 : S2.S8) (bs : List Nat) (all size : Nat) (w : World) (h : KI w q v s0 bs all size) :
    Calls Tryd.prog 103 #[.pointer (some ⟨q, 0, none⟩)] w fun e w' => ∃ q' v', e = .returned (.iface 79 (.pointer (some ⟨q', 0, none⟩))) ∧ KI w' q' v' s0 bs all size ∧ w.heap.size ≤ q' ∧ (∀ k, v'.ownBlock = some k → w.heap.size ≤ k) ∧ Below w.heap.size w w' := by
  go_enter Tryd.func103, Tryd.ntmps103
  go_wp2_with fail
  refine (twin_any q v s0 bs all size w h).mono ?_
  rintro _ w2 ⟨q2, v2, rfl, hI, hq, hv, hb⟩
  clear h
  go_wp2
  go_ret
  exact ⟨_, _, rfl, hI, hq, hv, hb⟩
theorem length_any (q : Nat) (v : Value) (s0 : S2.S8) (bs : List Nat) (all size : Nat) (w : World) (h : KI w q v s0 bs all size) :
    Calls Tryd.prog 104 #[.pointer (some ⟨q, 0, none⟩)] w fun e w' => e = .returned (.int .u64 (all : Int)) ∧ w = w' := by
  have hc := cell_all h.row
  clear h
  go_enter Tryd.func104, Tryd.ntmps104
  go_wp2
  go_ret
  exact ⟨rfl, rfl⟩
theorem pad_ne {w' : World} {base n q : Nat} {v : Value} {xs : List Value} (h : w'.ownsRow base 5 1 v n xs) (hq : q < base) : v.ownBlock ≠ some q := fun e => by
  have := (h.lt q e).1
  omega
theorem pad_ne2 {w w' : World} {base n b2 n2 : Nat} {e2 : TypeId} {v v2 : Value} {xs ys : List Value} (h : w'.ownsRow base 5 1 v n xs) (h2 : w.ownsRow b2 e2 1 v2 n2 ys) (hb : w.heap.size ≤ base) : v.ownBlock = none ∨ v.ownBlock ≠ v2.ownBlock := by
  by_cases hn : v.ownBlock = none
  · exact .inl hn
  · obtain ⟨k, hk⟩ := Option.ne_none_iff_exists'.1 hn
    refine .inr (fun e => ?_)
    have h3 := (h.lt k hk).1
    have h4 := (h2.lt k (e ▸ hk)).2
    omega
set_option maxHeartbeats 800000 in
theorem sum_any (q : Nat) (v : Value) (s0 : S2.S8) (hs0 : s0.ok) (bs : List Nat) (hbs : Lo 256 bs) (hm : bs.length < 1152921504606846000) (size : Nat) (hsz : size ≤ 32) (w : World) (h : KI w q v s0 bs bs.length size) (hT : Tabs w) :
    Calls Tryd.prog 105 #[.pointer (some ⟨q, 0, none⟩)] w fun e w' => ∃ v', e = .returned v' ∧ w'.ownsRow w.heap.size 5 1 v' size (C .u8 ((S2.out2 (now S2.blk2 64 s0 (bs ++ pdg 64 8 bs.length))).take size)) ∧ Below w.heap.size w w' := by
  obtain ⟨n, hn⟩ : ∃ n, bs.length = n := ⟨_, rfl⟩
  go_enter Tryd.func105, Tryd.ntmps105
  go_wp2_with fail
  refine (twin_any q v s0 bs _ size w h).mono ?_
  rintro _ w1 ⟨q1, v1, rfl, hI1, hq1, hv1, hb1⟩
  have hI := h.below hb1
  have hT1 := hT.below hb1
  have hqlt := h.row.lt
  have hca := cell_all hI.row
  have hcb := cell_block hI.row
  clear h
  have hca' : w1.cell? ⟨q, 9, none⟩ = some (.int .u64 (n : Int)) := by rw [← hn]; exact hca
  have hm' : n < 1152921504606846000 := by omega
  have hbsn := Away.mk hn
  have hmA := Away.mk hm
  have hmA' := Away.mk hm'
  have hq11 := hI1.row.lt
  clear hca hn hm hm'
  go_wp2_with fail
  go_region_with (first
    | (go_at_call 100; refine (padding_small n hmA'.out _).mono ?_; rintro _ w2 ⟨pv, pn, rfl, hpo, hb2⟩)
    | (go_at_call 107; refine (write_any q1 v1 s0 hs0 bs size _ (hI1.below (below_of_drew hb2)) hbs pv (pdg 64 8 n) (pdg_lo _ _ _) (SlV.ofOwn hpo) (fun _ => pad_ne hpo hq11) (fun _ => pad_ne2 hpo hI1.own (Nat.le_refl _)) (by have := hmA.out; have := pdg_length 64 8 n (by decide) (by decide); omega) (hT1.below (below_of_drew hb2))).mono ?_; rintro _ w3 ⟨rfl, v3, hI3, hk3, hv3⟩))
  all_goals (
    have hb3 : Below w.heap.size w w3 := Kp.below (hb1.trans ((below_of_drew hb2).mono hb1.size)) hk3 (Nat.le_trans hb1.size (below_of_drew hb2).size) hq1 hv1
    obtain ⟨hq12, hrow3, hown3⟩ := hI3
    obtain ⟨G, hG⟩ : ∃ G, (bs ++ pdg 64 8 n).length = G := ⟨_, rfl⟩
    obtain ⟨Y, hY⟩ : ∃ Y, now S2.blk2 64 s0 (bs ++ pdg 64 8 n) = Y := ⟨_, rfl⟩
    have hYo : Y.ok := by rw [← hY]; exact now_ok hs0 _
    rw [hG, hY] at hrow3
    have HY := Away.mk hY
    clear hG hY hI1 hI hT1 hca' hcb hpo hb2 hk3 hv3 hown3
    go_wp2_with fail
    refine wp_region_noPanic ?_
    refine wp_region_held_drew (S := fun w' => Row w' q1 82 (cells Y v3 G size)) (by kernel_rfl) (hrow3.drew) (fun hHeld => ?_)
    refine wpAnyH_takeL (i := 0) (v := ?v0s3) rfl (by kernel_rfl) (by kernel_rfl) (by kernel_rfl) (fun _ _ _ h => h) (by rfl) ?h0s3 (by assumption) ?_
    case h0s3 => intro w hSw; go_simp <;> with_reducible rfl
    simp only [Act.put, List.setIfInBounds_toArray, List.set_cons_zero, List.set_cons_succ]
    refine wpAnyH_takeL (i := 1) (v := ?v1s3) rfl (by kernel_rfl) (by kernel_rfl) (by kernel_rfl) (fun _ _ _ h => h) (by rfl) ?h1s3 (by assumption) ?_
    case h1s3 => intro w hSw; go_simp <;> with_reducible rfl
    simp only [Act.put, List.setIfInBounds_toArray, List.set_cons_zero, List.set_cons_succ]
    refine wpAnyH_takeL (i := 2) (v := ?v2s3) rfl (by kernel_rfl) (by kernel_rfl) (by kernel_rfl) (fun _ _ _ h => h) (by rfl) ?h2s3 (by assumption) ?_
    case h2s3 => intro w hSw; go_simp <;> with_reducible rfl
    simp only [Act.put, List.setIfInBounds_toArray, List.set_cons_zero, List.set_cons_succ]
    refine wpAnyH_takeL (i := 3) (v := (.func (.func 49) #[] #[])) rfl (by kernel_rfl) (by kernel_rfl) (by kernel_rfl) (fun _ _ _ h => h) (by rfl) ?h3s3 (by assumption) ?_
    case h3s3 => intro w hSw; exact exec_load_cell _ _ rfl rfl (cell_tell hSw) Tryd.underlying80 rfl
    simp only [Act.put, List.setIfInBounds_toArray, List.set_cons_zero, List.set_cons_succ]
    refine wpAnyH_takeL (i := 4) (v := ?v4s3) rfl (by kernel_rfl) (by kernel_rfl) (by kernel_rfl) (fun _ _ _ h => h) (by rfl) ?h4s3 (by assumption) ?_
    case h4s3 => intro w hSw; go_simp <;> with_reducible rfl
    simp only [Act.put, List.setIfInBounds_toArray, List.set_cons_zero, List.set_cons_succ]
    refine wpAnyH_takeL (i := 5) (v := ?v5s3) rfl (by kernel_rfl) (by kernel_rfl) (by kernel_rfl) (fun _ _ _ h => h) (by rfl) ?h5s3 (by assumption) ?_
    case h5s3 => intro w hSw; go_simp <;> with_reducible rfl
    simp only [Act.put, List.setIfInBounds_toArray, List.set_cons_zero, List.set_cons_succ]
    refine wpAnyH_takeL (i := 6) (v := ?v6s3) rfl (by kernel_rfl) (by kernel_rfl) (by kernel_rfl) (fun _ _ _ h => h) (by rfl) ?h6s3 (by assumption) ?_
    case h6s3 => intro w hSw; go_simp <;> with_reducible rfl
    simp only [Act.put, List.setIfInBounds_toArray, List.set_cons_zero, List.set_cons_succ]
    refine wpAnyH_takeL (i := 7) (v := (.agg (C .u32 Y.list).toArray)) rfl (by kernel_rfl) (by kernel_rfl) (by kernel_rfl) (fun _ _ _ h => h) (by rfl) ?h7s3 (by assumption) ?_
    case h7s3 => intro w hSw; exact exec_load_head 65 _ rfl rfl (show Row _ _ _ (C .u32 Y.list ++ _) from hSw) Tryd.underlying65 S2.i8
    simp only [Act.put, List.setIfInBounds_toArray, List.set_cons_zero, List.set_cons_succ]
    refine wpAnyH_takeL (i := 8) (v := ?v8s3) rfl (by kernel_rfl) (by kernel_rfl) (by kernel_rfl) (fun _ _ _ h => h) (by rfl) ?h8s3 (by assumption) ?_
    case h8s3 => intro w hSw; go_simp <;> with_reducible rfl
    simp only [Act.put, List.setIfInBounds_toArray, List.set_cons_zero, List.set_cons_succ]
    refine wpAnyH_takeL (i := 9) (v := ?v9s3) rfl (by kernel_rfl) (by kernel_rfl) (by kernel_rfl) (fun _ _ _ h => h) (by rfl) ?h9s3 (by assumption) ?_
    case h9s3 => intro w hSw; go_simp <;> with_reducible rfl
    simp only [Act.put, List.setIfInBounds_toArray, List.set_cons_zero, List.set_cons_succ]
    refine wpAnyH_takeL (i := 10) (v := ?v10s3) rfl (by kernel_rfl) (by kernel_rfl) (by kernel_rfl) (fun _ _ _ h => h) (by rfl) ?h10s3 (by assumption) ?_
    case h10s3 => intro w hSw; go_simp <;> with_reducible rfl
    simp only [Act.put, List.setIfInBounds_toArray, List.set_cons_zero, List.set_cons_succ]
    refine wpAnyH_takeL (i := 11) (v := (.int .i64 (size : Int))) rfl (by kernel_rfl) (by kernel_rfl) (by kernel_rfl) (fun _ _ _ h => h) (by rfl) ?h11s3 (by assumption) ?_
    case h11s3 => intro w hSw; exact exec_load_cell 3 _ rfl rfl (cell_size hSw) Tryd.underlying3 rfl
    simp only [Act.put, List.setIfInBounds_toArray, List.set_cons_zero, List.set_cons_succ]
    refine allReadyH_oneL (i := 12) (by kernel_rfl) rfl (by rfl) (fun K hK => ?_)
    go_simp
    refine (tells_any Y hYo size hsz _).mono ?_
    rintro _ w4 ⟨v4, rfl, ho4, hb4⟩
    have hR4 := hrow3.drew.belowS hb4
    refine hK.out _ _ (hR4) (fun hHeld => ?_)
    clear hK K
    refine allReadyH_oneL (i := 13) (by kernel_rfl) rfl (by rfl) (fun K hK => ?_)
    refine wp_value v4 (by go_simp <;> with_reducible rfl) ?_
    refine hK.out _ _ (hR4) (fun hHeld => ?_)
    clear hK K
    refine wpAnyH_done (by kernel_rfl) ?_ _
    refine NoPanic.normal ?_
    simp only [Act.put, List.setIfInBounds_toArray, List.set_cons_zero, List.set_cons_succ]
    have hb5 := hb3.trans ((below_of_drew hb4).mono hb3.size)
    have ho5 := own_base ho4 (show w.heap.size ≤ w3.drew.heap.size from hb3.size)
    go_wp2
    go_ret
    exact ⟨_, rfl, by rw [hbsn.out, HY.out]; exact ho5, hb5⟩)
end W2
namespace W3
/-- The struct, made. -/
def zcells : List Value := C .u64 (Z 8) ++ [Value.slice none 0 0, .int .u64 0, .int .i64 0, .int .i64 0, .nilFunc, .nilFunc]
theorem zT (w : World) : (zeroValue 86).run Tryd.prog w = .ok (.agg zcells.toArray) w := by kernel_rfl
theorem iT : (Tryd.prog.info? 86).map (·.size) = some (8 + 6) := by kernel_rfl
theorem cells_one (S : S3.S8) {v : Value} (hv : v.oneCell' = true) (all size : Nat) : (cells S v all size).all (·.oneCell') = true := by
  unfold cells
  rw [List.all_append, C_allL, List.all_cons, hv]
  rfl
theorem KI.below {w w' : World} {q : Nat} {v : Value} {s0 : S3.S8} {bs : List Nat} {all size : Nat} (h : KI w q v s0 bs all size) (hb : Below w.heap.size w w') : KI w' q v s0 bs all size :=
  ⟨h.at2, h.row.belowS hb, own_below h.own hb⟩
theorem KI.kp {w w' : World} {q q2 : Nat} {v : Value} {r : Option Nat} {s0 : S3.S8} {bs : List Nat} {all size : Nat} (h : KI w q v s0 bs all size) (hk : Kp q2 r w w') (h1 : q ≠ q2) (h2 : some q ≠ r) (h3 : v.ownBlock ≠ some q2) (h4 : v.ownBlock = none ∨ v.ownBlock ≠ r) : KI w' q v s0 bs all size :=
  ⟨h.at2, hk.row h.row h1 h2, hk.own h.own h3 h4⟩
theorem twin_any (q : Nat) (v : Value) (s0 : S3.S8) (bs : List Nat) (all size : Nat) (w : World) (h : KI w q v s0 bs all size) :
    Calls Tryd.prog 111 #[.pointer (some ⟨q, 0, none⟩)] w fun e w' => ∃ q' v', e = .returned (.pointer (some ⟨q', 0, none⟩)) ∧ KI w' q' v' s0 bs all size ∧ w.heap.size ≤ q' ∧ (∀ k, v'.ownBlock = some k → w.heap.size ≤ k) ∧ Below w.heap.size w w' := by
  obtain ⟨hq2, hrow, hown⟩ := h
  obtain ⟨Y, hY⟩ : ∃ Y, now S3.blk3 128 s0 bs = Y := ⟨_, rfl⟩
  rw [hY] at hrow
  have HY := Away.mk hY
  clear hY
  have h2w : 2 ≤ w.heap.size := Nat.le_trans hq2 (Nat.le_of_lt hrow.lt)
  have hN := Row.new w 86 zcells
  have hL := Below.more (Below.refl w.heap.size w) (Nat.le_refl _) (.cells zcells.toArray 86)
  have h1 := cells_one Y (own_oneCell hown) all size
  have hi1 : (Tryd.prog.info? 86).map (·.size) = some (cells Y v all size).toArray.size := iT
  have hi2 : (Tryd.prog.info? 86).map (·.size) = some (cells Y v all size).length := iT
  have ho2 : zcells.length = (cells Y v all size).length := rfl
  go_enter Tryd.func111, Tryd.ntmps111
  go_upto_region 2 with (first | refine wpList_load_row rfl 86 _ rfl _ rfl _ _ _ _ hrow Tryd.underlying86 rfl hi1 ?_ | refine wpList_alloc_row rfl 86 rfl _ zT ?_ | (refine wpList_store_R rfl 86 _ _ rfl _ (cells Y v all size) rfl rfl hN hi2 ho2 h1 ?_; intro w2 hR2 hg2 hz2))
  have hL2 := below_grown hL.1 hg2 (Nat.le_refl _) hN.lt
  have hrow2 := hrow.belowS hL2
  have hown2 := own_below hown hL2
  have hcr := cell_rest hrow2
  clear hN hL hg2 hz2 h1 hi1 hi2 ho2 hrow
  go_wp2_with fail
  refine (clone_any v (rst 128 bs) _ (SlV.ofOwn hown2) (by rw [rst_len]; omega)).mono ?_
  rintro _ w3 ⟨v3, rfl, ho3, hb3⟩
  rw [rst_len] at ho3
  obtain ⟨a3, c3, rfl, hs1, hs2⟩ := (SlV.ofOwn ho3).shp (n := bs.length % 128) (rst_len bs)
  have hR3 := hR2.belowS hb3
  have hL3 := hL2.trans (hb3.mono hL2.size)
  have hsz := hL2.size
  have hfr := hR3.frozen 8
  have hcr3 := cell_rest hR3
  have hR4 := set_rest hR3 (.slice a3 (bs.length % 128) c3)
  have ho4 := ho3.kept (grown_set w3 w.heap.size 8 (.slice a3 (bs.length % 128) c3)) (.inr (own_ne ho3 hR3 (by decide)))
  have hvl : ∀ k, (Value.slice a3 (bs.length % 128) c3).ownBlock = some k → w.heap.size ≤ k := fun k hk => Nat.le_trans hsz (ho3.lt k hk).1
  have hL4 := below_setCell hL3 (Nat.le_refl w.heap.size) (i := 8) (.slice a3 (bs.length % 128) c3)
  clear hR2 hb3 hL2 hL3 hrow2 hown2 hcr hown
  go_wp2
  go_ret
  exact ⟨_, _, rfl, ⟨h2w, by rw [HY.out]; exact hR4, own_base ho4 (by omega)⟩, Nat.le_refl _, hvl, hL4⟩
theorem copied_any (q : Nat) (v : Value) (s0 : S3.S8) (bs : List Nat) (all size : Nat) (w : World) (h : KI w q v s0 bs all size) :
    Calls Tryd.prog 108 #[.pointer (some ⟨q, 0, none⟩)] w fun e w' => ∃ q' v', e = .returned (.iface 83 (.pointer (some ⟨q', 0, none⟩))) ∧ KI w' q' v' s0 bs all size ∧ w.heap.size ≤ q' ∧ (∀ k, v'.ownBlock = some k → w.heap.size ≤ k) ∧ Below w.heap.size w w' := by
  go_enter Tryd.func108, Tryd.ntmps108
  go_wp2_with fail
  refine (twin_any q v s0 bs all size w h).mono ?_
  rintro _ w2 ⟨q2, v2, rfl, hI, hq, hv, hb⟩
  clear h
  go_wp2
  go_ret
  exact ⟨_, _, rfl, hI, hq, hv, hb⟩
theorem length_any (q : Nat) (v : Value) (s0 : S3.S8) (bs : List Nat) (all size : Nat) (w : World) (h : KI w q v s0 bs all size) :
    Calls Tryd.prog 109 #[.pointer (some ⟨q, 0, none⟩)] w fun e w' => e = .returned (.int .u64 (all : Int)) ∧ w = w' := by
  have hc := cell_all h.row
  clear h
  go_enter Tryd.func109, Tryd.ntmps109
  go_wp2
  go_ret
  exact ⟨rfl, rfl⟩
theorem pad_ne {w' : World} {base n q : Nat} {v : Value} {xs : List Value} (h : w'.ownsRow base 5 1 v n xs) (hq : q < base) : v.ownBlock ≠ some q := fun e => by
  have := (h.lt q e).1
  omega
theorem pad_ne2 {w w' : World} {base n b2 n2 : Nat} {e2 : TypeId} {v v2 : Value} {xs ys : List Value} (h : w'.ownsRow base 5 1 v n xs) (h2 : w.ownsRow b2 e2 1 v2 n2 ys) (hb : w.heap.size ≤ base) : v.ownBlock = none ∨ v.ownBlock ≠ v2.ownBlock := by
  by_cases hn : v.ownBlock = none
  · exact .inl hn
  · obtain ⟨k, hk⟩ := Option.ne_none_iff_exists'.1 hn
    refine .inr (fun e => ?_)
    have h3 := (h.lt k hk).1
    have h4 := (h2.lt k (e ▸ hk)).2
    omega
set_option maxHeartbeats 800000 in
theorem sum_any (q : Nat) (v : Value) (s0 : S3.S8) (hs0 : s0.ok) (bs : List Nat) (hbs : Lo 256 bs) (hm : bs.length < 1152921504606846000) (size : Nat) (hsz : size ≤ 64) (w : World) (h : KI w q v s0 bs bs.length size) (hT : Tabs w) :
    Calls Tryd.prog 110 #[.pointer (some ⟨q, 0, none⟩)] w fun e w' => ∃ v', e = .returned v' ∧ w'.ownsRow w.heap.size 5 1 v' size (C .u8 ((S3.out3 (now S3.blk3 128 s0 (bs ++ pdg 128 16 bs.length))).take size)) ∧ Below w.heap.size w w' := by
  obtain ⟨n, hn⟩ : ∃ n, bs.length = n := ⟨_, rfl⟩
  go_enter Tryd.func110, Tryd.ntmps110
  go_wp2_with fail
  refine (twin_any q v s0 bs _ size w h).mono ?_
  rintro _ w1 ⟨q1, v1, rfl, hI1, hq1, hv1, hb1⟩
  have hI := h.below hb1
  have hT1 := hT.below hb1
  have hqlt := h.row.lt
  have hca := cell_all hI.row
  have hcb := cell_block hI.row
  clear h
  have hca' : w1.cell? ⟨q, 9, none⟩ = some (.int .u64 (n : Int)) := by rw [← hn]; exact hca
  have hm' : n < 1152921504606846000 := by omega
  have hbsn := Away.mk hn
  have hmA := Away.mk hm
  have hmA' := Away.mk hm'
  have hq11 := hI1.row.lt
  clear hca hn hm hm'
  go_wp2_with fail
  go_region_with (first
    | (go_at_call 100; refine (padding_large n hmA'.out _).mono ?_; rintro _ w2 ⟨pv, pn, rfl, hpo, hb2⟩)
    | (go_at_call 112; refine (write_any q1 v1 s0 hs0 bs size _ (hI1.below (below_of_drew hb2)) hbs pv (pdg 128 16 n) (pdg_lo _ _ _) (SlV.ofOwn hpo) (fun _ => pad_ne hpo hq11) (fun _ => pad_ne2 hpo hI1.own (Nat.le_refl _)) (by have := hmA.out; have := pdg_length 128 16 n (by decide) (by decide); omega) (hT1.below (below_of_drew hb2))).mono ?_; rintro _ w3 ⟨rfl, v3, hI3, hk3, hv3⟩))
  all_goals (
    have hb3 : Below w.heap.size w w3 := Kp.below (hb1.trans ((below_of_drew hb2).mono hb1.size)) hk3 (Nat.le_trans hb1.size (below_of_drew hb2).size) hq1 hv1
    obtain ⟨hq12, hrow3, hown3⟩ := hI3
    obtain ⟨G, hG⟩ : ∃ G, (bs ++ pdg 128 16 n).length = G := ⟨_, rfl⟩
    obtain ⟨Y, hY⟩ : ∃ Y, now S3.blk3 128 s0 (bs ++ pdg 128 16 n) = Y := ⟨_, rfl⟩
    have hYo : Y.ok := by rw [← hY]; exact now_ok hs0 _
    rw [hG, hY] at hrow3
    have HY := Away.mk hY
    clear hG hY hI1 hI hT1 hca' hcb hpo hb2 hk3 hv3 hown3
    go_wp2_with fail
    refine wp_region_noPanic ?_
    refine wp_region_held_drew (S := fun w' => Row w' q1 86 (cells Y v3 G size)) (by kernel_rfl) (hrow3.drew) (fun hHeld => ?_)
    refine wpAnyH_takeL (i := 0) (v := ?v0s3) rfl (by kernel_rfl) (by kernel_rfl) (by kernel_rfl) (fun _ _ _ h => h) (by rfl) ?h0s3 (by assumption) ?_
    case h0s3 => intro w hSw; go_simp <;> with_reducible rfl
    simp only [Act.put, List.setIfInBounds_toArray, List.set_cons_zero, List.set_cons_succ]
    refine wpAnyH_takeL (i := 1) (v := ?v1s3) rfl (by kernel_rfl) (by kernel_rfl) (by kernel_rfl) (fun _ _ _ h => h) (by rfl) ?h1s3 (by assumption) ?_
    case h1s3 => intro w hSw; go_simp <;> with_reducible rfl
    simp only [Act.put, List.setIfInBounds_toArray, List.set_cons_zero, List.set_cons_succ]
    refine wpAnyH_takeL (i := 2) (v := ?v2s3) rfl (by kernel_rfl) (by kernel_rfl) (by kernel_rfl) (fun _ _ _ h => h) (by rfl) ?h2s3 (by assumption) ?_
    case h2s3 => intro w hSw; go_simp <;> with_reducible rfl
    simp only [Act.put, List.setIfInBounds_toArray, List.set_cons_zero, List.set_cons_succ]
    refine wpAnyH_takeL (i := 3) (v := (.func (.func 51) #[] #[])) rfl (by kernel_rfl) (by kernel_rfl) (by kernel_rfl) (fun _ _ _ h => h) (by rfl) ?h3s3 (by assumption) ?_
    case h3s3 => intro w hSw; exact exec_load_cell _ _ rfl rfl (cell_tell hSw) Tryd.underlying84 rfl
    simp only [Act.put, List.setIfInBounds_toArray, List.set_cons_zero, List.set_cons_succ]
    refine wpAnyH_takeL (i := 4) (v := ?v4s3) rfl (by kernel_rfl) (by kernel_rfl) (by kernel_rfl) (fun _ _ _ h => h) (by rfl) ?h4s3 (by assumption) ?_
    case h4s3 => intro w hSw; go_simp <;> with_reducible rfl
    simp only [Act.put, List.setIfInBounds_toArray, List.set_cons_zero, List.set_cons_succ]
    refine wpAnyH_takeL (i := 5) (v := ?v5s3) rfl (by kernel_rfl) (by kernel_rfl) (by kernel_rfl) (fun _ _ _ h => h) (by rfl) ?h5s3 (by assumption) ?_
    case h5s3 => intro w hSw; go_simp <;> with_reducible rfl
    simp only [Act.put, List.setIfInBounds_toArray, List.set_cons_zero, List.set_cons_succ]
    refine wpAnyH_takeL (i := 6) (v := ?v6s3) rfl (by kernel_rfl) (by kernel_rfl) (by kernel_rfl) (fun _ _ _ h => h) (by rfl) ?h6s3 (by assumption) ?_
    case h6s3 => intro w hSw; go_simp <;> with_reducible rfl
    simp only [Act.put, List.setIfInBounds_toArray, List.set_cons_zero, List.set_cons_succ]
    refine wpAnyH_takeL (i := 7) (v := (.agg (C .u64 Y.list).toArray)) rfl (by kernel_rfl) (by kernel_rfl) (by kernel_rfl) (fun _ _ _ h => h) (by rfl) ?h7s3 (by assumption) ?_
    case h7s3 => intro w hSw; exact exec_load_head 69 _ rfl rfl (show Row _ _ _ (C .u64 Y.list ++ _) from hSw) Tryd.underlying69 S3.i8
    simp only [Act.put, List.setIfInBounds_toArray, List.set_cons_zero, List.set_cons_succ]
    refine wpAnyH_takeL (i := 8) (v := ?v8s3) rfl (by kernel_rfl) (by kernel_rfl) (by kernel_rfl) (fun _ _ _ h => h) (by rfl) ?h8s3 (by assumption) ?_
    case h8s3 => intro w hSw; go_simp <;> with_reducible rfl
    simp only [Act.put, List.setIfInBounds_toArray, List.set_cons_zero, List.set_cons_succ]
    refine wpAnyH_takeL (i := 9) (v := ?v9s3) rfl (by kernel_rfl) (by kernel_rfl) (by kernel_rfl) (fun _ _ _ h => h) (by rfl) ?h9s3 (by assumption) ?_
    case h9s3 => intro w hSw; go_simp <;> with_reducible rfl
    simp only [Act.put, List.setIfInBounds_toArray, List.set_cons_zero, List.set_cons_succ]
    refine wpAnyH_takeL (i := 10) (v := ?v10s3) rfl (by kernel_rfl) (by kernel_rfl) (by kernel_rfl) (fun _ _ _ h => h) (by rfl) ?h10s3 (by assumption) ?_
    case h10s3 => intro w hSw; go_simp <;> with_reducible rfl
    simp only [Act.put, List.setIfInBounds_toArray, List.set_cons_zero, List.set_cons_succ]
    refine wpAnyH_takeL (i := 11) (v := (.int .i64 (size : Int))) rfl (by kernel_rfl) (by kernel_rfl) (by kernel_rfl) (fun _ _ _ h => h) (by rfl) ?h11s3 (by assumption) ?_
    case h11s3 => intro w hSw; exact exec_load_cell 3 _ rfl rfl (cell_size hSw) Tryd.underlying3 rfl
    simp only [Act.put, List.setIfInBounds_toArray, List.set_cons_zero, List.set_cons_succ]
    refine allReadyH_oneL (i := 12) (by kernel_rfl) rfl (by rfl) (fun K hK => ?_)
    go_simp
    refine (tells_any Y hYo size hsz _).mono ?_
    rintro _ w4 ⟨v4, rfl, ho4, hb4⟩
    have hR4 := hrow3.drew.belowS hb4
    refine hK.out _ _ (hR4) (fun hHeld => ?_)
    clear hK K
    refine allReadyH_oneL (i := 13) (by kernel_rfl) rfl (by rfl) (fun K hK => ?_)
    refine wp_value v4 (by go_simp <;> with_reducible rfl) ?_
    refine hK.out _ _ (hR4) (fun hHeld => ?_)
    clear hK K
    refine wpAnyH_done (by kernel_rfl) ?_ _
    refine NoPanic.normal ?_
    simp only [Act.put, List.setIfInBounds_toArray, List.set_cons_zero, List.set_cons_succ]
    have hb5 := hb3.trans ((below_of_drew hb4).mono hb3.size)
    have ho5 := own_base ho4 (show w.heap.size ≤ w3.drew.heap.size from hb3.size)
    go_wp2
    go_ret
    exact ⟨_, rfl, by rw [hbsn.out, HY.out]; exact ho5, hb5⟩)
end W3
end Go.Proofs.YtmbaenodibfedaaDoor.S9
namespace Go.Proofs.YtmbaenodibfedaaDoor.S9
open Go.RowKit
set_option linter.unusedVariables false
set_option maxRecDepth 10000

theorem gbl1 (s : S1.S5) (p : List Nat) (n : Nat) : gbl S1.blk1 64 s p n = S1.blks1 s p n := by
  induction n with
  | zero => rfl
  | succ n ih => rw [gbl, S1.blks1, ih]
theorem gbl2 (s : S2.S8) (p : List Nat) (n : Nat) : gbl S2.blk2 64 s p n = S2.blks2 s p n := by
  induction n with
  | zero => rfl
  | succ n ih => rw [gbl, S2.blks2, ih]
theorem gbl3 (s : S3.S8) (p : List Nat) (n : Nat) : gbl S3.blk3 128 s p n = S3.blks3 s p n := by
  induction n with
  | zero => rfl
  | succ n ih => rw [gbl, S3.blks3, ih]
theorem pad1_eq (bs : List Nat) (h : bs.length < 1152921504606846976) : S1.pad1 bs = bs ++ pdg 64 8 bs.length := by
  have e1 : S1.zs1 bs.length = (64 - (bs.length + (8 + 1)) % 64) % 64 := by unfold S1.zs1; omega
  have e2 : 8 * bs.length % 18446744073709551616 = 8 * bs.length := by omega
  unfold S1.pad1 pdg
  rw [e1, e2]
  rfl
theorem pad3_eq (bs : List Nat) (h : bs.length < 1152921504606846976) : S3.pad3 bs = bs ++ pdg 128 16 bs.length := by
  have e1 : S3.zs3 bs.length = (128 - (bs.length + (16 + 1)) % 128) % 128 := by unfold S3.zs3; omega
  have e2 : 8 * bs.length % 18446744073709551616 = 8 * bs.length := by omega
  unfold S3.pad3 pdg
  rw [e1, e2]
  rfl
theorem tells1 (bs : List Nat) (h : bs.length < 1152921504606846976) : (S1.out1 (now S1.blk1 64 S1.start1 (bs ++ pdg 64 8 bs.length))).take 20 = dig 2 bs := by
  rw [← pad1_eq bs h, now, gbl1]
  exact List.take_of_length_le (Nat.le_refl _)
theorem tells2 (b : Bool) (bs : List Nat) (h : bs.length < 1152921504606846976) : S2.out2 (now S2.blk2 64 (S2.start2 b) (bs ++ pdg 64 8 bs.length)) = S2.sum2 b bs := by
  rw [← pad1_eq bs h, now, gbl2]
  rfl
theorem tells3 (b : Bool) (bs : List Nat) (h : bs.length < 1152921504606846976) : S3.out3 (now S3.blk3 128 (S3.start3 b) (bs ++ pdg 128 16 bs.length)) = S3.sum3 b bs := by
  rw [← pad3_eq bs h, now, gbl3]
  rfl
/-- Long or short. -/
def lg2 (a : Int) : Bool := decide (a = 8)
def lg3 (a : Int) : Bool := decide (a = 10)
theorem tells2a (a : Int) (ha : a = 8 ∨ a = 11) (bs : List Nat) (h : bs.length < 1152921504606846976) : (S2.out2 (now S2.blk2 64 (S2.start2 (lg2 a)) (bs ++ pdg 64 8 bs.length))).take (siz a) = dig a bs := by
  rw [tells2 _ _ h]
  rcases ha with rfl | rfl
  · exact List.take_of_length_le (Nat.le_of_eq (sum2_length true bs))
  · rfl
theorem tells3a (a : Int) (ha : a = 9 ∨ a = 10) (bs : List Nat) (h : bs.length < 1152921504606846976) : (S3.out3 (now S3.blk3 128 (S3.start3 (lg3 a)) (bs ++ pdg 128 16 bs.length))).take (siz a) = dig a bs := by
  rw [tells3 _ _ h]
  rcases ha with rfl | rfl
  · rfl
  · exact List.take_of_length_le (Nat.le_of_eq (sum3_length true bs))

/-- Block hp is a hash by algorithm a of the bytes bs; its struct lies in block q, what is behind the whole blocks in the row of v. -/
structure HI (w : World) (a : Int) (hp q : Nat) (v : Value) (bs : List Nat) : Prop where
  at2 : 2 ≤ hp
  kind : (a = 2 ∧ Row w hp 56 [.iface 75 (.pointer (some ⟨q, 0, none⟩))] ∧ W1.KI w q v S1.start1 bs bs.length 20) ∨
    ((a = 8 ∨ a = 11) ∧ Row w hp 56 [.iface 79 (.pointer (some ⟨q, 0, none⟩))] ∧ W2.KI w q v (S2.start2 (lg2 a)) bs bs.length (siz a)) ∨
    ((a = 9 ∨ a = 10) ∧ Row w hp 56 [.iface 83 (.pointer (some ⟨q, 0, none⟩))] ∧ W3.KI w q v (S3.start3 (lg3 a)) bs bs.length (siz a))
theorem HI.below {w w' : World} {a : Int} {hp q : Nat} {v : Value} {bs : List Nat} (h : HI w a hp q v bs) (hb : Below w.heap.size w w') : HI w' a hp q v bs := by
  obtain ⟨h2, ⟨ha, hr, hk⟩ | ⟨ha, hr, hk⟩ | ⟨ha, hr, hk⟩⟩ := h
  · exact ⟨h2, .inl ⟨ha, hr.belowS hb, hk.below hb⟩⟩
  · exact ⟨h2, .inr (.inl ⟨ha, hr.belowS hb, hk.below hb⟩)⟩
  · exact ⟨h2, .inr (.inr ⟨ha, hr.belowS hb, hk.below hb⟩)⟩
theorem HI.kp {w w' : World} {a : Int} {hp q q2 : Nat} {v : Value} {r : Option Nat} {bs : List Nat} (h : HI w a hp q v bs) (hk : Kp q2 r w w') (h0 : hp ≠ q2) (h0' : some hp ≠ r) (h1 : q ≠ q2) (h2 : some q ≠ r) (h3 : v.ownBlock ≠ some q2) (h4 : v.ownBlock = none ∨ v.ownBlock ≠ r) : HI w' a hp q v bs := by
  obtain ⟨h22, ⟨ha, hr, hq⟩ | ⟨ha, hr, hq⟩ | ⟨ha, hr, hq⟩⟩ := h
  · exact ⟨h22, .inl ⟨ha, hk.row hr h0 h0', hq.kp hk h1 h2 h3 h4⟩⟩
  · exact ⟨h22, .inr (.inl ⟨ha, hk.row hr h0 h0', hq.kp hk h1 h2 h3 h4⟩)⟩
  · exact ⟨h22, .inr (.inr ⟨ha, hk.row hr h0 h0', hq.kp hk h1 h2 h3 h4⟩)⟩
theorem HI.kn {w : World} {a : Int} {hp q : Nat} {v : Value} {bs : List Nat} (h : HI w a hp q v bs) : Kn a := by
  unfold Kn
  obtain ⟨_, ⟨ha, _⟩ | ⟨ha, _⟩ | ⟨ha, _⟩⟩ := h <;> omega
/-- Where its parts lie. -/
theorem HI.lt {w : World} {a : Int} {hp q : Nat} {v : Value} {bs : List Nat} (h : HI w a hp q v bs) : hp < w.heap.size ∧ q < w.heap.size ∧ 2 ≤ q ∧ (∀ k, v.ownBlock = some k → 2 ≤ k ∧ k < w.heap.size) ∧ hp ≠ q ∧ v.ownBlock ≠ some hp ∧ v.ownBlock ≠ some q := by
  have ne : ∀ {T : TypeId} {us vs : List Value}, Row w hp 56 us → Row w q T vs → T ≠ 56 → hp ≠ q := by
    intro T us vs h1 h2 h3 e
    subst e
    have := h1.symm.trans h2
    simp only [Option.some.injEq, Obj.cells.injEq] at this
    exact h3 this.2.1.symm
  obtain ⟨_, ⟨ha, hr, hk⟩ | ⟨ha, hr, hk⟩ | ⟨ha, hr, hk⟩⟩ := h
  · exact ⟨hr.lt, hk.row.lt, hk.at2, fun k e => hk.own.lt k e, ne hr hk.row (by decide), own_ne hk.own hr (by decide), own_ne hk.own hk.row (by decide)⟩
  · exact ⟨hr.lt, hk.row.lt, hk.at2, fun k e => hk.own.lt k e, ne hr hk.row (by decide), own_ne hk.own hr (by decide), own_ne hk.own hk.row (by decide)⟩
  · exact ⟨hr.lt, hk.row.lt, hk.at2, fun k e => hk.own.lt k e, ne hr hk.row (by decide), own_ne hk.own hr (by decide), own_ne hk.own hk.row (by decide)⟩
end Go.Proofs.YtmbaenodibfedaaDoor.S9
namespace Go.Proofs.YtmbaenodibfedaaDoor.S9
open Go.RowKit
set_option linter.unusedVariables false
set_option maxRecDepth 10000

theorem isNone_nil (w : World) : Calls Tryd.prog 28 #[.pointer none] w fun e w' => e = .returned (.bool true) ∧ w = w' := by
  go_enter Tryd.func28, Tryd.ntmps28
  go_wp2
  go_ret
  exact ⟨rfl, rfl⟩
theorem write_nil (w : World) (v : Value) : Calls Tryd.prog 16 #[.pointer none, v] w fun e w' => e = .returned (.tuple #[]) ∧ w = w' := by
  go_enter Tryd.func16, Tryd.ntmps16
  go_wp2_with fail
  refine (isNone_nil _).mono ?_
  rintro _ w' ⟨rfl, rfl⟩
  go_wp2
  go_returns
  exact ⟨rfl, rfl⟩
theorem hsum_nil (w : World) : Calls Tryd.prog 17 #[.pointer none] w fun e w' => e = .returned (.slice none 0 0) ∧ w = w' := by
  go_enter Tryd.func17, Tryd.ntmps17
  go_wp2_with fail
  refine (isNone_nil _).mono ?_
  rintro _ w' ⟨rfl, rfl⟩
  go_wp2
  go_ret
  exact ⟨rfl, rfl⟩
theorem len_nil (w : World) : Calls Tryd.prog 18 #[.pointer none] w fun e w' => e = .returned (.int .u64 0) ∧ w = w' := by
  go_enter Tryd.func18, Tryd.ntmps18
  go_wp2_with fail
  refine (isNone_nil _).mono ?_
  rintro _ w' ⟨rfl, rfl⟩
  go_wp2
  go_ret
  exact ⟨rfl, rfl⟩
theorem copy_nil (w : World) : Calls Tryd.prog 15 #[.pointer none] w fun e w' => e = .returned (.pointer none) ∧ w = w' := by
  go_enter Tryd.func15, Tryd.ntmps15
  go_wp2_with fail
  refine (isNone_nil _).mono ?_
  rintro _ w' ⟨rfl, rfl⟩
  go_wp2
  go_ret
  exact ⟨rfl, rfl⟩
end Go.Proofs.YtmbaenodibfedaaDoor.S9
namespace Go.Proofs.YtmbaenodibfedaaDoor.S9
open Go.RowKit
set_option linter.unusedVariables false
set_option maxRecDepth 10000

theorem isNone_some (hp : Nat) (T : TypeId) (x : Value) (w : World) (hc : w.cell? ⟨hp, 0, none⟩ = some (.iface T x)) : Calls Tryd.prog 28 #[.pointer (some ⟨hp, 0, none⟩)] w fun e w' => e = .returned (.bool false) ∧ w = w' := by
  have hq : ∀ w, (binOp .eql 53 (.iface T x) .nilIface).run Tryd.prog w = .ok (.bool false) w := fun _ => by rfl
  go_enter Tryd.func28, Tryd.ntmps28
  go_wp2
  go_ret
  exact ⟨rfl, rfl⟩
section
variable (hp q : Nat) (v : Value) (s0 : S1.S5) (bs : List Nat) (size : Nat) (w : World)
theorem hlen_1 (hr : Row w hp 56 [.iface 75 (.pointer (some ⟨q, 0, none⟩))]) (hk : W1.KI w q v s0 bs bs.length size) :
    Calls Tryd.prog 18 #[.pointer (some ⟨hp, 0, none⟩)] w fun e w' => e = .returned (.int .u64 (bs.length : Int)) ∧ w = w' := by
  have hc : w.cell? ⟨hp, 0, none⟩ = some (.iface 75 (.pointer (some ⟨q, 0, none⟩))) := hr.cell 0
  go_enter Tryd.func18, Tryd.ntmps18
  go_wp2_with fail
  refine (isNone_some _ _ _ _ hc).mono ?_
  rintro _ w1 ⟨rfl, rfl⟩
  go_wp2_with fail
  refine (W1.length_any q v s0 bs _ size w hk).mono ?_
  rintro _ w1 ⟨rfl, rfl⟩
  clear hk hr
  go_wp2
  go_ret
  exact ⟨rfl, rfl⟩
theorem hsum_1 (hs0 : s0.ok) (hbs : Lo 256 bs) (hm : bs.length < 1152921504606846000) (hsz : size ≤ 20) (hT : Tabs w) (hr : Row w hp 56 [.iface 75 (.pointer (some ⟨q, 0, none⟩))]) (hk : W1.KI w q v s0 bs bs.length size) :
    Calls Tryd.prog 17 #[.pointer (some ⟨hp, 0, none⟩)] w fun e w' => ∃ v', e = .returned v' ∧ w'.ownsRow w.heap.size 5 1 v' size (C .u8 ((S1.out1 (now S1.blk1 64 s0 (bs ++ pdg 64 8 bs.length))).take size)) ∧ Below w.heap.size w w' := by
  have hc : w.cell? ⟨hp, 0, none⟩ = some (.iface 75 (.pointer (some ⟨q, 0, none⟩))) := hr.cell 0
  have HM := Away.mk hm
  clear hm
  go_enter Tryd.func17, Tryd.ntmps17
  go_wp2_with fail
  refine (isNone_some _ _ _ _ hc).mono ?_
  rintro _ w1 ⟨rfl, rfl⟩
  go_wp2_with fail
  refine (W1.sum_any q v s0 hs0 bs hbs HM.out size hsz w hk hT).mono ?_
  rintro _ w1 ⟨v1, rfl, ho, hb⟩
  clear hk hr
  have HO := Away.mk ho
  clear ho
  go_wp2
  go_ret
  exact ⟨_, rfl, HO.out, hb⟩
theorem hwrite_1 (hs0 : s0.ok) (hbs : Lo 256 bs) (hr : Row w hp 56 [.iface 75 (.pointer (some ⟨q, 0, none⟩))]) (hk : W1.KI w q v s0 bs bs.length size)
    (bv : Value) (ys : List Nat) (hy : Lo 256 ys) (hsl : SlV w bv (C .u8 ys)) (hn1 : 0 < ys.length → bv.ownBlock ≠ some q) (hn2 : 0 < ys.length → bv.ownBlock = none ∨ bv.ownBlock ≠ v.ownBlock) (hm : bs.length + ys.length < 1152921504606846976) (hT : Tabs w) :
    Calls Tryd.prog 16 #[.pointer (some ⟨hp, 0, none⟩), bv] w fun e w' => e = .returned (.tuple #[]) ∧ ∃ v', W1.KI w' q v' s0 (bs ++ ys) (bs ++ ys).length size ∧ Kp q v.ownBlock w w' ∧ (v'.ownBlock = v.ownBlock ∨ ∀ k, v'.ownBlock = some k → w.heap.size ≤ k) := by
  have hc : w.cell? ⟨hp, 0, none⟩ = some (.iface 75 (.pointer (some ⟨q, 0, none⟩))) := hr.cell 0
  have HM := Away.mk hm
  clear hm
  go_enter Tryd.func16, Tryd.ntmps16
  go_wp2_with fail
  refine (isNone_some _ _ _ _ hc).mono ?_
  rintro _ w1 ⟨rfl, rfl⟩
  go_wp2_with fail
  refine (W1.write_any q v s0 hs0 bs size w hk hbs bv ys hy hsl hn1 hn2 HM.out hT).mono ?_
  rintro _ w1 ⟨rfl, v1, hI, hkp, hv⟩
  go_wp2
  go_returns
  exact ⟨rfl, v1, hI, hkp, hv⟩
theorem hcopy_1 (hr : Row w hp 56 [.iface 75 (.pointer (some ⟨q, 0, none⟩))]) (hk : W1.KI w q v s0 bs bs.length size) :
    Calls Tryd.prog 15 #[.pointer (some ⟨hp, 0, none⟩)] w fun e w' => ∃ hp' q' v', e = .returned (.pointer (some ⟨hp', 0, none⟩)) ∧ Row w' hp' 56 [.iface 75 (.pointer (some ⟨q', 0, none⟩))] ∧ W1.KI w' q' v' s0 bs bs.length size ∧ w.heap.size ≤ hp' ∧ w.heap.size ≤ q' ∧ (∀ k, v'.ownBlock = some k → w.heap.size ≤ k) ∧ Below w.heap.size w w' := by
  have hc : w.cell? ⟨hp, 0, none⟩ = some (.iface 75 (.pointer (some ⟨q, 0, none⟩))) := hr.cell 0
  go_enter Tryd.func15, Tryd.ntmps15
  go_wp2_with fail
  refine (isNone_some _ _ _ _ hc).mono ?_
  rintro _ w1 ⟨rfl, rfl⟩
  go_wp2_with fail
  refine (W1.copied_any q v s0 bs _ size w hk).mono ?_
  rintro _ w1 ⟨q1, v1, rfl, hI, hq, hv, hb⟩
  have hN := Row.new w1 56 [.iface 75 (.pointer (some ⟨q1, 0, none⟩))]
  have hL := Below.more (Below.refl w1.heap.size w1) (Nat.le_refl _) (.cells [Value.iface 75 (.pointer (some ⟨q1, 0, none⟩))].toArray 56)
  have hI2 := hI.below hL.1
  have hb2 := hb.trans (hL.1.mono hb.size)
  have hsz := hb.size
  clear hk hr hL hI hb
  go_wp2
  go_ret
  exact ⟨_, _, _, rfl, hN, hI2, hsz, hq, hv, hb2⟩
end
section
variable (hp q : Nat) (v : Value) (s0 : S2.S8) (bs : List Nat) (size : Nat) (w : World)
theorem hlen_2 (hr : Row w hp 56 [.iface 79 (.pointer (some ⟨q, 0, none⟩))]) (hk : W2.KI w q v s0 bs bs.length size) :
    Calls Tryd.prog 18 #[.pointer (some ⟨hp, 0, none⟩)] w fun e w' => e = .returned (.int .u64 (bs.length : Int)) ∧ w = w' := by
  have hc : w.cell? ⟨hp, 0, none⟩ = some (.iface 79 (.pointer (some ⟨q, 0, none⟩))) := hr.cell 0
  go_enter Tryd.func18, Tryd.ntmps18
  go_wp2_with fail
  refine (isNone_some _ _ _ _ hc).mono ?_
  rintro _ w1 ⟨rfl, rfl⟩
  go_wp2_with fail
  refine (W2.length_any q v s0 bs _ size w hk).mono ?_
  rintro _ w1 ⟨rfl, rfl⟩
  clear hk hr
  go_wp2
  go_ret
  exact ⟨rfl, rfl⟩
theorem hsum_2 (hs0 : s0.ok) (hbs : Lo 256 bs) (hm : bs.length < 1152921504606846000) (hsz : size ≤ 32) (hT : Tabs w) (hr : Row w hp 56 [.iface 79 (.pointer (some ⟨q, 0, none⟩))]) (hk : W2.KI w q v s0 bs bs.length size) :
    Calls Tryd.prog 17 #[.pointer (some ⟨hp, 0, none⟩)] w fun e w' => ∃ v', e = .returned v' ∧ w'.ownsRow w.heap.size 5 1 v' size (C .u8 ((S2.out2 (now S2.blk2 64 s0 (bs ++ pdg 64 8 bs.length))).take size)) ∧ Below w.heap.size w w' := by
  have hc : w.cell? ⟨hp, 0, none⟩ = some (.iface 79 (.pointer (some ⟨q, 0, none⟩))) := hr.cell 0
  have HM := Away.mk hm
  clear hm
  go_enter Tryd.func17, Tryd.ntmps17
  go_wp2_with fail
  refine (isNone_some _ _ _ _ hc).mono ?_
  rintro _ w1 ⟨rfl, rfl⟩
  go_wp2_with fail
  refine (W2.sum_any q v s0 hs0 bs hbs HM.out size hsz w hk hT).mono ?_
  rintro _ w1 ⟨v1, rfl, ho, hb⟩
  clear hk hr
  have HO := Away.mk ho
  clear ho
  go_wp2
  go_ret
  exact ⟨_, rfl, HO.out, hb⟩
theorem hwrite_2 (hs0 : s0.ok) (hbs : Lo 256 bs) (hr : Row w hp 56 [.iface 79 (.pointer (some ⟨q, 0, none⟩))]) (hk : W2.KI w q v s0 bs bs.length size)
    (bv : Value) (ys : List Nat) (hy : Lo 256 ys) (hsl : SlV w bv (C .u8 ys)) (hn1 : 0 < ys.length → bv.ownBlock ≠ some q) (hn2 : 0 < ys.length → bv.ownBlock = none ∨ bv.ownBlock ≠ v.ownBlock) (hm : bs.length + ys.length < 1152921504606846976) (hT : Tabs w) :
    Calls Tryd.prog 16 #[.pointer (some ⟨hp, 0, none⟩), bv] w fun e w' => e = .returned (.tuple #[]) ∧ ∃ v', W2.KI w' q v' s0 (bs ++ ys) (bs ++ ys).length size ∧ Kp q v.ownBlock w w' ∧ (v'.ownBlock = v.ownBlock ∨ ∀ k, v'.ownBlock = some k → w.heap.size ≤ k) := by
  have hc : w.cell? ⟨hp, 0, none⟩ = some (.iface 79 (.pointer (some ⟨q, 0, none⟩))) := hr.cell 0
  have HM := Away.mk hm
  clear hm
  go_enter Tryd.func16, Tryd.ntmps16
  go_wp2_with fail
  refine (isNone_some _ _ _ _ hc).mono ?_
  rintro _ w1 ⟨rfl, rfl⟩
  go_wp2_with fail
  refine (W2.write_any q v s0 hs0 bs size w hk hbs bv ys hy hsl hn1 hn2 HM.out hT).mono ?_
  rintro _ w1 ⟨rfl, v1, hI, hkp, hv⟩
  go_wp2
  go_returns
  exact ⟨rfl, v1, hI, hkp, hv⟩
theorem hcopy_2 (hr : Row w hp 56 [.iface 79 (.pointer (some ⟨q, 0, none⟩))]) (hk : W2.KI w q v s0 bs bs.length size) :
    Calls Tryd.prog 15 #[.pointer (some ⟨hp, 0, none⟩)] w fun e w' => ∃ hp' q' v', e = .returned (.pointer (some ⟨hp', 0, none⟩)) ∧ Row w' hp' 56 [.iface 79 (.pointer (some ⟨q', 0, none⟩))] ∧ W2.KI w' q' v' s0 bs bs.length size ∧ w.heap.size ≤ hp' ∧ w.heap.size ≤ q' ∧ (∀ k, v'.ownBlock = some k → w.heap.size ≤ k) ∧ Below w.heap.size w w' := by
  have hc : w.cell? ⟨hp, 0, none⟩ = some (.iface 79 (.pointer (some ⟨q, 0, none⟩))) := hr.cell 0
  go_enter Tryd.func15, Tryd.ntmps15
  go_wp2_with fail
  refine (isNone_some _ _ _ _ hc).mono ?_
  rintro _ w1 ⟨rfl, rfl⟩
  go_wp2_with fail
  refine (W2.copied_any q v s0 bs _ size w hk).mono ?_
  rintro _ w1 ⟨q1, v1, rfl, hI, hq, hv, hb⟩
  have hN := Row.new w1 56 [.iface 79 (.pointer (some ⟨q1, 0, none⟩))]
  have hL := Below.more (Below.refl w1.heap.size w1) (Nat.le_refl _) (.cells [Value.iface 79 (.pointer (some ⟨q1, 0, none⟩))].toArray 56)
  have hI2 := hI.below hL.1
  have hb2 := hb.trans (hL.1.mono hb.size)
  have hsz := hb.size
  clear hk hr hL hI hb
  go_wp2
  go_ret
  exact ⟨_, _, _, rfl, hN, hI2, hsz, hq, hv, hb2⟩
end
section
variable (hp q : Nat) (v : Value) (s0 : S3.S8) (bs : List Nat) (size : Nat) (w : World)
theorem hlen_3 (hr : Row w hp 56 [.iface 83 (.pointer (some ⟨q, 0, none⟩))]) (hk : W3.KI w q v s0 bs bs.length size) :
    Calls Tryd.prog 18 #[.pointer (some ⟨hp, 0, none⟩)] w fun e w' => e = .returned (.int .u64 (bs.length : Int)) ∧ w = w' := by
  have hc : w.cell? ⟨hp, 0, none⟩ = some (.iface 83 (.pointer (some ⟨q, 0, none⟩))) := hr.cell 0
  go_enter Tryd.func18, Tryd.ntmps18
  go_wp2_with fail
  refine (isNone_some _ _ _ _ hc).mono ?_
  rintro _ w1 ⟨rfl, rfl⟩
  go_wp2_with fail
  refine (W3.length_any q v s0 bs _ size w hk).mono ?_
  rintro _ w1 ⟨rfl, rfl⟩
  clear hk hr
  go_wp2
  go_ret
  exact ⟨rfl, rfl⟩
theorem hsum_3 (hs0 : s0.ok) (hbs : Lo 256 bs) (hm : bs.length < 1152921504606846000) (hsz : size ≤ 64) (hT : Tabs w) (hr : Row w hp 56 [.iface 83 (.pointer (some ⟨q, 0, none⟩))]) (hk : W3.KI w q v s0 bs bs.length size) :
    Calls Tryd.prog 17 #[.pointer (some ⟨hp, 0, none⟩)] w fun e w' => ∃ v', e = .returned v' ∧ w'.ownsRow w.heap.size 5 1 v' size (C .u8 ((S3.out3 (now S3.blk3 128 s0 (bs ++ pdg 128 16 bs.length))).take size)) ∧ Below w.heap.size w w' := by
  have hc : w.cell? ⟨hp, 0, none⟩ = some (.iface 83 (.pointer (some ⟨q, 0, none⟩))) := hr.cell 0
  have HM := Away.mk hm
  clear hm
  go_enter Tryd.func17, Tryd.ntmps17
  go_wp2_with fail
  refine (isNone_some _ _ _ _ hc).mono ?_
  rintro _ w1 ⟨rfl, rfl⟩
  go_wp2_with fail
  refine (W3.sum_any q v s0 hs0 bs hbs HM.out size hsz w hk hT).mono ?_
  rintro _ w1 ⟨v1, rfl, ho, hb⟩
  clear hk hr
  have HO := Away.mk ho
  clear ho
  go_wp2
  go_ret
  exact ⟨_, rfl, HO.out, hb⟩
theorem hwrite_3 (hs0 : s0.ok) (hbs : Lo 256 bs) (hr : Row w hp 56 [.iface 83 (.pointer (some ⟨q, 0, none⟩))]) (hk : W3.KI w q v s0 bs bs.length size)
    (bv : Value) (ys : List Nat) (hy : Lo 256 ys) (hsl : SlV w bv (C .u8 ys)) (hn1 : 0 < ys.length → bv.ownBlock ≠ some q) (hn2 : 0 < ys.length → bv.ownBlock = none ∨ bv.ownBlock ≠ v.ownBlock) (hm : bs.length + ys.length < 1152921504606846976) (hT : Tabs w) :
    Calls Tryd.prog 16 #[.pointer (some ⟨hp, 0, none⟩), bv] w fun e w' => e = .returned (.tuple #[]) ∧ ∃ v', W3.KI w' q v' s0 (bs ++ ys) (bs ++ ys).length size ∧ Kp q v.ownBlock w w' ∧ (v'.ownBlock = v.ownBlock ∨ ∀ k, v'.ownBlock = some k → w.heap.size ≤ k) := by
  have hc : w.cell? ⟨hp, 0, none⟩ = some (.iface 83 (.pointer (some ⟨q, 0, none⟩))) := hr.cell 0
  have HM := Away.mk hm
  clear hm
  go_enter Tryd.func16, Tryd.ntmps16
  go_wp2_with fail
  refine (isNone_some _ _ _ _ hc).mono ?_
  rintro _ w1 ⟨rfl, rfl⟩
  go_wp2_with fail
  refine (W3.write_any q v s0 hs0 bs size w hk hbs bv ys hy hsl hn1 hn2 HM.out hT).mono ?_
  rintro _ w1 ⟨rfl, v1, hI, hkp, hv⟩
  go_wp2
  go_returns
  exact ⟨rfl, v1, hI, hkp, hv⟩
theorem hcopy_3 (hr : Row w hp 56 [.iface 83 (.pointer (some ⟨q, 0, none⟩))]) (hk : W3.KI w q v s0 bs bs.length size) :
    Calls Tryd.prog 15 #[.pointer (some ⟨hp, 0, none⟩)] w fun e w' => ∃ hp' q' v', e = .returned (.pointer (some ⟨hp', 0, none⟩)) ∧ Row w' hp' 56 [.iface 83 (.pointer (some ⟨q', 0, none⟩))] ∧ W3.KI w' q' v' s0 bs bs.length size ∧ w.heap.size ≤ hp' ∧ w.heap.size ≤ q' ∧ (∀ k, v'.ownBlock = some k → w.heap.size ≤ k) ∧ Below w.heap.size w w' := by
  have hc : w.cell? ⟨hp, 0, none⟩ = some (.iface 83 (.pointer (some ⟨q, 0, none⟩))) := hr.cell 0
  go_enter Tryd.func15, Tryd.ntmps15
  go_wp2_with fail
  refine (isNone_some _ _ _ _ hc).mono ?_
  rintro _ w1 ⟨rfl, rfl⟩
  go_wp2_with fail
  refine (W3.copied_any q v s0 bs _ size w hk).mono ?_
  rintro _ w1 ⟨q1, v1, rfl, hI, hq, hv, hb⟩
  have hN := Row.new w1 56 [.iface 83 (.pointer (some ⟨q1, 0, none⟩))]
  have hL := Below.more (Below.refl w1.heap.size w1) (Nat.le_refl _) (.cells [Value.iface 83 (.pointer (some ⟨q1, 0, none⟩))].toArray 56)
  have hI2 := hI.below hL.1
  have hb2 := hb.trans (hL.1.mono hb.size)
  have hsz := hb.size
  clear hk hr hL hI hb
  go_wp2
  go_ret
  exact ⟨_, _, _, rfl, hN, hI2, hsz, hq, hv, hb2⟩
end
theorem len_any {a : Int} {hp q : Nat} {v : Value} {bs : List Nat} {w : World} (h : HI w a hp q v bs) :
    Calls Tryd.prog 18 #[.pointer (some ⟨hp, 0, none⟩)] w fun e w' => e = .returned (.int .u64 (bs.length : Int)) ∧ w = w' := by
  obtain ⟨_, ⟨ha, hr, hk⟩ | ⟨ha, hr, hk⟩ | ⟨ha, hr, hk⟩⟩ := h
  · exact hlen_1 hp q v _ bs _ w hr hk
  · exact hlen_2 hp q v _ bs _ w hr hk
  · exact hlen_3 hp q v _ bs _ w hr hk
theorem hsum_any {a : Int} {hp q : Nat} {v : Value} {bs : List Nat} {w : World} (h : HI w a hp q v bs) (hbs : Lo 256 bs) (hm : bs.length < 1152921504606846000) (hT : Tabs w) :
    Calls Tryd.prog 17 #[.pointer (some ⟨hp, 0, none⟩)] w fun e w' => ∃ v', e = .returned v' ∧ w'.ownsRow w.heap.size 5 1 v' (siz a) (C .u8 (dig a bs)) ∧ Below w.heap.size w w' := by
  obtain ⟨_, ⟨ha, hr, hk⟩ | ⟨ha, hr, hk⟩ | ⟨ha, hr, hk⟩⟩ := h
  · subst ha
    have := hsum_1 hp q v _ bs 20 w S1.start1_ok hbs hm (by decide) hT hr hk
    rw [tells1 bs (by omega)] at this
    exact this
  · have := hsum_2 hp q v _ bs (siz a) w (S2.start2_ok _) hbs hm (by rcases ha with rfl | rfl <;> decide) hT hr hk
    rw [tells2a a ha bs (by omega)] at this
    exact this
  · have := hsum_3 hp q v _ bs (siz a) w (S3.start3_ok _) hbs hm (by rcases ha with rfl | rfl <;> decide) hT hr hk
    rw [tells3a a ha bs (by omega)] at this
    exact this
theorem hwrite_any {a : Int} {hp q : Nat} {v : Value} {bs : List Nat} {w : World} (h : HI w a hp q v bs) (hbs : Lo 256 bs) (bv : Value) (ys : List Nat) (hy : Lo 256 ys) (hsl : SlV w bv (C .u8 ys)) (hn1 : 0 < ys.length → bv.ownBlock ≠ some q) (hn2 : 0 < ys.length → bv.ownBlock = none ∨ bv.ownBlock ≠ v.ownBlock) (hm : bs.length + ys.length < 1152921504606846976) (hT : Tabs w) :
    Calls Tryd.prog 16 #[.pointer (some ⟨hp, 0, none⟩), bv] w fun e w' => e = .returned (.tuple #[]) ∧ ∃ v', HI w' a hp q v' (bs ++ ys) ∧ Kp q v.ownBlock w w' ∧ (v'.ownBlock = v.ownBlock ∨ ∀ k, v'.ownBlock = some k → w.heap.size ≤ k) := by
  obtain ⟨_, _, _, _, hne, hne2, _⟩ := h.lt
  obtain ⟨h2, ⟨ha, hr, hk⟩ | ⟨ha, hr, hk⟩ | ⟨ha, hr, hk⟩⟩ := h
  · refine (hwrite_1 hp q v _ bs _ w S1.start1_ok hbs hr hk bv ys hy hsl hn1 hn2 hm hT).mono ?_
    rintro _ w' ⟨rfl, v', hI, hkp, hv⟩
    exact ⟨rfl, v', ⟨h2, .inl ⟨ha, hkp.row hr hne (fun e => hne2 e.symm), hI⟩⟩, hkp, hv⟩
  · refine (hwrite_2 hp q v _ bs _ w (S2.start2_ok _) hbs hr hk bv ys hy hsl hn1 hn2 hm hT).mono ?_
    rintro _ w' ⟨rfl, v', hI, hkp, hv⟩
    exact ⟨rfl, v', ⟨h2, .inr (.inl ⟨ha, hkp.row hr hne (fun e => hne2 e.symm), hI⟩)⟩, hkp, hv⟩
  · refine (hwrite_3 hp q v _ bs _ w (S3.start3_ok _) hbs hr hk bv ys hy hsl hn1 hn2 hm hT).mono ?_
    rintro _ w' ⟨rfl, v', hI, hkp, hv⟩
    exact ⟨rfl, v', ⟨h2, .inr (.inr ⟨ha, hkp.row hr hne (fun e => hne2 e.symm), hI⟩)⟩, hkp, hv⟩
theorem hcopy_any {a : Int} {hp q : Nat} {v : Value} {bs : List Nat} {w : World} (h : HI w a hp q v bs) :
    Calls Tryd.prog 15 #[.pointer (some ⟨hp, 0, none⟩)] w fun e w' => ∃ hp' q' v', e = .returned (.pointer (some ⟨hp', 0, none⟩)) ∧ HI w' a hp' q' v' bs ∧ w.heap.size ≤ hp' ∧ w.heap.size ≤ q' ∧ (∀ k, v'.ownBlock = some k → w.heap.size ≤ k) ∧ Below w.heap.size w w' := by
  have hl := h.lt.1
  obtain ⟨h2, ⟨ha, hr, hk⟩ | ⟨ha, hr, hk⟩ | ⟨ha, hr, hk⟩⟩ := h
  · refine (hcopy_1 hp q v _ bs _ w hr hk).mono ?_
    rintro _ w' ⟨hp', q', v', rfl, hr', hI, h3, h4, h5, hb⟩
    exact ⟨hp', q', v', rfl, ⟨by omega, .inl ⟨ha, hr', hI⟩⟩, h3, h4, h5, hb⟩
  · refine (hcopy_2 hp q v _ bs _ w hr hk).mono ?_
    rintro _ w' ⟨hp', q', v', rfl, hr', hI, h3, h4, h5, hb⟩
    exact ⟨hp', q', v', rfl, ⟨by omega, .inr (.inl ⟨ha, hr', hI⟩)⟩, h3, h4, h5, hb⟩
  · refine (hcopy_3 hp q v _ bs _ w hr hk).mono ?_
    rintro _ w' ⟨hp', q', v', rfl, hr', hI, h3, h4, h5, hb⟩
    exact ⟨hp', q', v', rfl, ⟨by omega, .inr (.inr ⟨ha, hr', hI⟩)⟩, h3, h4, h5, hb⟩
end Go.Proofs.YtmbaenodibfedaaDoor.S9
namespace Go.Proofs.YtmbaenodibfedaaDoor.S9
open Go.RowKit
set_option linter.unusedVariables false
set_option maxRecDepth 10000

theorem wp_built {P : Program} {o : Oper} {a : Act} {w : World} {K : Act → World → Prop} {Q : Exit → Act → World → Prop} {t : TypeId} {parts : Array (Nat × Operand)} (ho : o.op = .build t parts) {cs : Array Value} (hb : P.built t (parts.map fun (i, x) => (i, a.eval x)).toList = some cs) (h : K (a.put o.dst (.agg cs)) w) : o.wp P a w K Q :=
  wp_build t parts ho (by rw [hb]; rfl) (by rw [hb]; exact h)
theorem built_2 : Tryd.prog.built 78 [(0, .agg (C .u32 S1.start1.list).toArray), (3, .int .i64 64), (4, .int .i64 (siz 2 : Nat)), (5, .func (.func 46) #[] #[]), (6, .func (.func 47) #[] #[])] = some (W1.cells S1.start1 (.slice none 0 0) 0 20).toArray := by kernel_rfl
theorem begun_2 (w : World) (hT : Tabs w) : Calls Tryd.prog 27 #[.int .i64 2] w fun e w' => ∃ q, e = .returned (.iface 75 (.pointer (some ⟨q, 0, none⟩))) ∧ W1.KI w' q (.slice none 0 0) S1.start1 [] 0 20 ∧ w.heap.size ≤ q ∧ Below w.heap.size w w' := by
  have h2 : 2 ≤ w.heap.size := hT.b.pos
  go_enter Tryd.func27, Tryd.ntmps27
  go_wp2_with fail
  refine (S1.start_any _).mono ?_
  rintro _ w1 ⟨rfl, hb1⟩
  go_wp2_with fail
  refine (size_any 2 _).mono ?_
  rintro _ w2 ⟨rfl, rfl⟩
  have hsz := hb1.size
  have hN := Row.new w1 78 (W1.cells S1.start1 (.slice none 0 0) 0 20)
  have hL := Below.more hb1 hb1.size (.cells (W1.cells S1.start1 (.slice none 0 0) 0 20).toArray 78)
  go_wp2_with (refine wpList_build rfl _ _ rfl ?_ ?_)
  case refine_1 => rw [built_2]; rfl
  rw [built_2]
  go_ret
  exact ⟨_, rfl, ⟨by omega, hN, World.ownsRow_nil _ 2 _ 1⟩, hsz, hL.1⟩
theorem built_8 : Tryd.prog.built 82 [(0, .agg (C .u32 (S2.start2 (lg2 8)).list).toArray), (3, .int .i64 64), (4, .int .i64 (siz 8 : Nat)), (5, .func (.func 48) #[] #[]), (6, .func (.func 49) #[] #[])] = some (W2.cells (S2.start2 (lg2 8)) (.slice none 0 0) 0 (siz 8)).toArray := by kernel_rfl
set_option maxHeartbeats 800000 in
theorem begun_8 (w : World) (hT : Tabs w) : Calls Tryd.prog 27 #[.int .i64 8] w fun e w' => ∃ q, e = .returned (.iface 79 (.pointer (some ⟨q, 0, none⟩))) ∧ W2.KI w' q (.slice none 0 0) (S2.start2 (lg2 8)) [] 0 (siz 8) ∧ w.heap.size ≤ q ∧ Below w.heap.size w w' := by
  have h2 : 2 ≤ w.heap.size := hT.b.pos
  obtain ⟨Y, hY⟩ : ∃ Y, (S2.start2 (lg2 8)) = Y := ⟨_, rfl⟩
  obtain ⟨cs, hcs⟩ : ∃ cs, (W2.cells (S2.start2 (lg2 8)) (.slice none 0 0) 0 (siz 8)) = cs := ⟨_, rfl⟩
  have hBu := built_8
  rw [hcs, hY] at hBu
  have HB := Away.mk hBu
  clear hBu
  have HY := Away.mk hY
  have HC := Away.mk hcs
  clear hY hcs
  go_enter Tryd.func27, Tryd.ntmps27
  go_wp2_with fail
  refine (S2.start_any _ _).mono ?_
  rintro _ w1 ⟨rfl, hb1⟩
  rw [show S2.start2 true = Y from HY.out]
  have hA := Row.new w1 65 (C .u32 (Z 8))
  have hL2 := Below.more hb1 hb1.size (.cells (C .u32 (Z 8)).toArray 65)
  have hsz := hb1.size
  have iH : (Tryd.prog.info? 65).map (·.size) = some (C .u32 Y.list).length := S2.i8
  have hH : (C .u32 (Z 8)).length = (C .u32 Y.list).length := rfl
  clear hb1
  go_upto_region 7 with (first | refine wpList_alloc_row rfl 65 rfl _ S2.z8 ?_ | (refine wpList_store_R rfl 65 _ _ rfl _ (C .u32 Y.list) rfl rfl hA iH hH (C_allL _ _) ?_; intro w2 hA2 hg2 hz2))
  have hL3 := below_grown hL2.1 hg2 hsz hA.lt
  have hsz2 : w1.heap.size < w2.heap.size := hA2.lt
  have hN := Row.new w2.drew 82 cs
  have hL4 := Below.more hL3.drew (show w.heap.size ≤ w2.drew.heap.size from hL3.size) (.cells cs.toArray 82)
  clear hA hL2 hg2 hz2
  refine wp_region_noPanic ?_
  refine wp_region_held_drew (S := fun w' => Row w' w1.heap.size 65 (C .u32 Y.list)) (by kernel_rfl) (hA2.drew) (fun hHeld => ?_)
  refine wpAnyH_takeL (i := 0) (v := (.agg (C .u32 Y.list).toArray)) rfl (by kernel_rfl) (by kernel_rfl) (by kernel_rfl) (fun _ _ _ h => h) (by rfl) ?h0b8 (by assumption) ?_
  case h0b8 => intro w hSw; exact exec_load_R 65 _ rfl rfl hSw Tryd.underlying65 S2.i8
  simp only [Act.put, List.setIfInBounds_toArray, List.set_cons_zero, List.set_cons_succ]
  refine wpAnyH_takeL (i := 1) (v := ?v1b8) rfl (by kernel_rfl) (by kernel_rfl) (by kernel_rfl) (fun _ _ _ h => h) (by rfl) ?h1b8 (by assumption) ?_
  case h1b8 => intro w hSw; go_simp <;> with_reducible rfl
  simp only [Act.put, List.setIfInBounds_toArray, List.set_cons_zero, List.set_cons_succ]
  refine allReadyH_oneL (i := 2) (by kernel_rfl) rfl (by rfl) (fun K hK => ?_)
  go_simp
  refine (size_any 8 _).mono ?_
  rintro _ w5 ⟨rfl, rfl⟩
  refine hK.out _ _ (hA2.drew) (fun hHeld => ?_)
  clear hK K
  refine allReadyH_oneL (i := 3) (by kernel_rfl) rfl (by rfl) (fun K hK => ?_)
  refine wp_built rfl (cs := cs.toArray) (by simp only [List.map_toArray, List.map_cons, List.map_nil, Act.eval]; exact HB.out) ?_
  refine hK.out _ _ (hA2.drew) (fun hHeld => ?_)
  clear hK K
  refine allReadyH_oneL (i := 4) (by kernel_rfl) rfl (by rfl) (fun K hK => ?_)
  go_simp
  refine hK.out _ _ ((hA2.drew).alloc _) (fun hHeld => ?_)
  clear hK K
  refine allReadyH_oneL (i := 5) (by kernel_rfl) rfl (by rfl) (fun K hK => ?_)
  refine wp_value (.iface 79 (.pointer (some ⟨w2.heap.size, 0, none⟩))) (by go_simp <;> with_reducible rfl) ?_
  refine hK.out _ _ ((hA2.drew).alloc _) (fun hHeld => ?_)
  clear hK K
  refine allReadyH_oneL (i := 6) (by kernel_rfl) rfl (by rfl) (fun K hK => ?_)
  refine wp_value (.iface 79 (.pointer (some ⟨w2.heap.size, 0, none⟩))) (by go_simp <;> with_reducible rfl) ?_
  refine hK.out _ _ ((hA2.drew).alloc _) (fun hHeld => ?_)
  clear hK K
  refine wpAnyH_done (by kernel_rfl) ?_ _
  refine NoPanic.normal ?_
  simp only [Act.put, List.setIfInBounds_toArray, List.set_cons_zero, List.set_cons_succ]
  go_wp2
  go_ret
  refine ⟨_, rfl, ⟨by omega, ?_, World.ownsRow_nil _ 2 _ 1⟩, by omega, hL4.1⟩
  show Row _ _ _ (W2.cells (S2.start2 (lg2 8)) (.slice none 0 0) 0 (siz 8))
  rw [HC.out]
  exact hN
theorem built_11 : Tryd.prog.built 82 [(0, .agg (C .u32 (S2.start2 (lg2 11)).list).toArray), (3, .int .i64 64), (4, .int .i64 (siz 11 : Nat)), (5, .func (.func 48) #[] #[]), (6, .func (.func 49) #[] #[])] = some (W2.cells (S2.start2 (lg2 11)) (.slice none 0 0) 0 (siz 11)).toArray := by kernel_rfl
set_option maxHeartbeats 800000 in
theorem begun_11 (w : World) (hT : Tabs w) : Calls Tryd.prog 27 #[.int .i64 11] w fun e w' => ∃ q, e = .returned (.iface 79 (.pointer (some ⟨q, 0, none⟩))) ∧ W2.KI w' q (.slice none 0 0) (S2.start2 (lg2 11)) [] 0 (siz 11) ∧ w.heap.size ≤ q ∧ Below w.heap.size w w' := by
  have h2 : 2 ≤ w.heap.size := hT.b.pos
  obtain ⟨Y, hY⟩ : ∃ Y, (S2.start2 (lg2 11)) = Y := ⟨_, rfl⟩
  obtain ⟨cs, hcs⟩ : ∃ cs, (W2.cells (S2.start2 (lg2 11)) (.slice none 0 0) 0 (siz 11)) = cs := ⟨_, rfl⟩
  have hBu := built_11
  rw [hcs, hY] at hBu
  have HB := Away.mk hBu
  clear hBu
  have HY := Away.mk hY
  have HC := Away.mk hcs
  clear hY hcs
  go_enter Tryd.func27, Tryd.ntmps27
  go_wp2_with fail
  refine (S2.start_any _ _).mono ?_
  rintro _ w1 ⟨rfl, hb1⟩
  rw [show S2.start2 false = Y from HY.out]
  have hA := Row.new w1 65 (C .u32 (Z 8))
  have hL2 := Below.more hb1 hb1.size (.cells (C .u32 (Z 8)).toArray 65)
  have hsz := hb1.size
  have iH : (Tryd.prog.info? 65).map (·.size) = some (C .u32 Y.list).length := S2.i8
  have hH : (C .u32 (Z 8)).length = (C .u32 Y.list).length := rfl
  clear hb1
  go_upto_region 7 with (first | refine wpList_alloc_row rfl 65 rfl _ S2.z8 ?_ | (refine wpList_store_R rfl 65 _ _ rfl _ (C .u32 Y.list) rfl rfl hA iH hH (C_allL _ _) ?_; intro w2 hA2 hg2 hz2))
  have hL3 := below_grown hL2.1 hg2 hsz hA.lt
  have hsz2 : w1.heap.size < w2.heap.size := hA2.lt
  have hN := Row.new w2.drew 82 cs
  have hL4 := Below.more hL3.drew (show w.heap.size ≤ w2.drew.heap.size from hL3.size) (.cells cs.toArray 82)
  clear hA hL2 hg2 hz2
  refine wp_region_noPanic ?_
  refine wp_region_held_drew (S := fun w' => Row w' w1.heap.size 65 (C .u32 Y.list)) (by kernel_rfl) (hA2.drew) (fun hHeld => ?_)
  refine wpAnyH_takeL (i := 0) (v := (.agg (C .u32 Y.list).toArray)) rfl (by kernel_rfl) (by kernel_rfl) (by kernel_rfl) (fun _ _ _ h => h) (by rfl) ?h0b11 (by assumption) ?_
  case h0b11 => intro w hSw; exact exec_load_R 65 _ rfl rfl hSw Tryd.underlying65 S2.i8
  simp only [Act.put, List.setIfInBounds_toArray, List.set_cons_zero, List.set_cons_succ]
  refine wpAnyH_takeL (i := 1) (v := ?v1b11) rfl (by kernel_rfl) (by kernel_rfl) (by kernel_rfl) (fun _ _ _ h => h) (by rfl) ?h1b11 (by assumption) ?_
  case h1b11 => intro w hSw; go_simp <;> with_reducible rfl
  simp only [Act.put, List.setIfInBounds_toArray, List.set_cons_zero, List.set_cons_succ]
  refine allReadyH_oneL (i := 2) (by kernel_rfl) rfl (by rfl) (fun K hK => ?_)
  go_simp
  refine (size_any 11 _).mono ?_
  rintro _ w5 ⟨rfl, rfl⟩
  refine hK.out _ _ (hA2.drew) (fun hHeld => ?_)
  clear hK K
  refine allReadyH_oneL (i := 3) (by kernel_rfl) rfl (by rfl) (fun K hK => ?_)
  refine wp_built rfl (cs := cs.toArray) (by simp only [List.map_toArray, List.map_cons, List.map_nil, Act.eval]; exact HB.out) ?_
  refine hK.out _ _ (hA2.drew) (fun hHeld => ?_)
  clear hK K
  refine allReadyH_oneL (i := 4) (by kernel_rfl) rfl (by rfl) (fun K hK => ?_)
  go_simp
  refine hK.out _ _ ((hA2.drew).alloc _) (fun hHeld => ?_)
  clear hK K
  refine allReadyH_oneL (i := 5) (by kernel_rfl) rfl (by rfl) (fun K hK => ?_)
  refine wp_value (.iface 79 (.pointer (some ⟨w2.heap.size, 0, none⟩))) (by go_simp <;> with_reducible rfl) ?_
  refine hK.out _ _ ((hA2.drew).alloc _) (fun hHeld => ?_)
  clear hK K
  refine allReadyH_oneL (i := 6) (by kernel_rfl) rfl (by rfl) (fun K hK => ?_)
  refine wp_value (.iface 79 (.pointer (some ⟨w2.heap.size, 0, none⟩))) (by go_simp <;> with_reducible rfl) ?_
  refine hK.out _ _ ((hA2.drew).alloc _) (fun hHeld => ?_)
  clear hK K
  refine wpAnyH_done (by kernel_rfl) ?_ _
  refine NoPanic.normal ?_
  simp only [Act.put, List.setIfInBounds_toArray, List.set_cons_zero, List.set_cons_succ]
  go_wp2
  go_ret
  refine ⟨_, rfl, ⟨by omega, ?_, World.ownsRow_nil _ 2 _ 1⟩, by omega, hL4.1⟩
  show Row _ _ _ (W2.cells (S2.start2 (lg2 11)) (.slice none 0 0) 0 (siz 11))
  rw [HC.out]
  exact hN
theorem built_9 : Tryd.prog.built 86 [(0, .agg (C .u64 (S3.start3 (lg3 9)).list).toArray), (3, .int .i64 128), (4, .int .i64 (siz 9 : Nat)), (5, .func (.func 50) #[] #[]), (6, .func (.func 51) #[] #[])] = some (W3.cells (S3.start3 (lg3 9)) (.slice none 0 0) 0 (siz 9)).toArray := by kernel_rfl
set_option maxHeartbeats 800000 in
theorem begun_9 (w : World) (hT : Tabs w) : Calls Tryd.prog 27 #[.int .i64 9] w fun e w' => ∃ q, e = .returned (.iface 83 (.pointer (some ⟨q, 0, none⟩))) ∧ W3.KI w' q (.slice none 0 0) (S3.start3 (lg3 9)) [] 0 (siz 9) ∧ w.heap.size ≤ q ∧ Below w.heap.size w w' := by
  have h2 : 2 ≤ w.heap.size := hT.b.pos
  obtain ⟨Y, hY⟩ : ∃ Y, (S3.start3 (lg3 9)) = Y := ⟨_, rfl⟩
  obtain ⟨cs, hcs⟩ : ∃ cs, (W3.cells (S3.start3 (lg3 9)) (.slice none 0 0) 0 (siz 9)) = cs := ⟨_, rfl⟩
  have hBu := built_9
  rw [hcs, hY] at hBu
  have HB := Away.mk hBu
  clear hBu
  have HY := Away.mk hY
  have HC := Away.mk hcs
  clear hY hcs
  go_enter Tryd.func27, Tryd.ntmps27
  go_wp2_with fail
  refine (S3.start_any _ _).mono ?_
  rintro _ w1 ⟨rfl, hb1⟩
  rw [show S3.start3 false = Y from HY.out]
  have hA := Row.new w1 69 (C .u64 (Z 8))
  have hL2 := Below.more hb1 hb1.size (.cells (C .u64 (Z 8)).toArray 69)
  have hsz := hb1.size
  have iH : (Tryd.prog.info? 69).map (·.size) = some (C .u64 Y.list).length := S3.i8
  have hH : (C .u64 (Z 8)).length = (C .u64 Y.list).length := rfl
  clear hb1
  go_upto_region 11 with (first | refine wpList_alloc_row rfl 69 rfl _ S3.z8 ?_ | (refine wpList_store_R rfl 69 _ _ rfl _ (C .u64 Y.list) rfl rfl hA iH hH (C_allL _ _) ?_; intro w2 hA2 hg2 hz2))
  have hL3 := below_grown hL2.1 hg2 hsz hA.lt
  have hsz2 : w1.heap.size < w2.heap.size := hA2.lt
  have hN := Row.new w2.drew 86 cs
  have hL4 := Below.more hL3.drew (show w.heap.size ≤ w2.drew.heap.size from hL3.size) (.cells cs.toArray 86)
  clear hA hL2 hg2 hz2
  refine wp_region_noPanic ?_
  refine wp_region_held_drew (S := fun w' => Row w' w1.heap.size 69 (C .u64 Y.list)) (by kernel_rfl) (hA2.drew) (fun hHeld => ?_)
  refine wpAnyH_takeL (i := 0) (v := (.agg (C .u64 Y.list).toArray)) rfl (by kernel_rfl) (by kernel_rfl) (by kernel_rfl) (fun _ _ _ h => h) (by rfl) ?h0b9 (by assumption) ?_
  case h0b9 => intro w hSw; exact exec_load_R 69 _ rfl rfl hSw Tryd.underlying69 S3.i8
  simp only [Act.put, List.setIfInBounds_toArray, List.set_cons_zero, List.set_cons_succ]
  refine wpAnyH_takeL (i := 1) (v := ?v1b9) rfl (by kernel_rfl) (by kernel_rfl) (by kernel_rfl) (fun _ _ _ h => h) (by rfl) ?h1b9 (by assumption) ?_
  case h1b9 => intro w hSw; go_simp <;> with_reducible rfl
  simp only [Act.put, List.setIfInBounds_toArray, List.set_cons_zero, List.set_cons_succ]
  refine allReadyH_oneL (i := 2) (by kernel_rfl) rfl (by rfl) (fun K hK => ?_)
  go_simp
  refine (size_any 9 _).mono ?_
  rintro _ w5 ⟨rfl, rfl⟩
  refine hK.out _ _ (hA2.drew) (fun hHeld => ?_)
  clear hK K
  refine allReadyH_oneL (i := 3) (by kernel_rfl) rfl (by rfl) (fun K hK => ?_)
  refine wp_built rfl (cs := cs.toArray) (by simp only [List.map_toArray, List.map_cons, List.map_nil, Act.eval]; exact HB.out) ?_
  refine hK.out _ _ (hA2.drew) (fun hHeld => ?_)
  clear hK K
  refine allReadyH_oneL (i := 4) (by kernel_rfl) rfl (by rfl) (fun K hK => ?_)
  go_simp
  refine hK.out _ _ ((hA2.drew).alloc _) (fun hHeld => ?_)
  clear hK K
  refine allReadyH_oneL (i := 5) (by kernel_rfl) rfl (by rfl) (fun K hK => ?_)
  refine wp_value (.iface 83 (.pointer (some ⟨w2.heap.size, 0, none⟩))) (by go_simp <;> with_reducible rfl) ?_
  refine hK.out _ _ ((hA2.drew).alloc _) (fun hHeld => ?_)
  clear hK K
  refine allReadyH_oneL (i := 6) (by kernel_rfl) rfl (by rfl) (fun K hK => ?_)
  refine wp_value (.iface 83 (.pointer (some ⟨w2.heap.size, 0, none⟩))) (by go_simp <;> with_reducible rfl) ?_
  refine hK.out _ _ ((hA2.drew).alloc _) (fun hHeld => ?_)
  clear hK K
  refine wpAnyH_done (by kernel_rfl) ?_ _
  refine NoPanic.normal ?_
  simp only [Act.put, List.setIfInBounds_toArray, List.set_cons_zero, List.set_cons_succ]
  go_wp2
  go_ret
  refine ⟨_, rfl, ⟨by omega, ?_, World.ownsRow_nil _ 2 _ 1⟩, by omega, hL4.1⟩
  show Row _ _ _ (W3.cells (S3.start3 (lg3 9)) (.slice none 0 0) 0 (siz 9))
  rw [HC.out]
  exact hN
theorem built_10 : Tryd.prog.built 86 [(0, .agg (C .u64 (S3.start3 (lg3 10)).list).toArray), (3, .int .i64 128), (4, .int .i64 (siz 10 : Nat)), (5, .func (.func 50) #[] #[]), (6, .func (.func 51) #[] #[])] = some (W3.cells (S3.start3 (lg3 10)) (.slice none 0 0) 0 (siz 10)).toArray := by kernel_rfl
set_option maxHeartbeats 800000 in
theorem begun_10 (w : World) (hT : Tabs w) : Calls Tryd.prog 27 #[.int .i64 10] w fun e w' => ∃ q, e = .returned (.iface 83 (.pointer (some ⟨q, 0, none⟩))) ∧ W3.KI w' q (.slice none 0 0) (S3.start3 (lg3 10)) [] 0 (siz 10) ∧ w.heap.size ≤ q ∧ Below w.heap.size w w' := by
  have h2 : 2 ≤ w.heap.size := hT.b.pos
  obtain ⟨Y, hY⟩ : ∃ Y, (S3.start3 (lg3 10)) = Y := ⟨_, rfl⟩
  obtain ⟨cs, hcs⟩ : ∃ cs, (W3.cells (S3.start3 (lg3 10)) (.slice none 0 0) 0 (siz 10)) = cs := ⟨_, rfl⟩
  have hBu := built_10
  rw [hcs, hY] at hBu
  have HB := Away.mk hBu
  clear hBu
  have HY := Away.mk hY
  have HC := Away.mk hcs
  clear hY hcs
  go_enter Tryd.func27, Tryd.ntmps27
  go_wp2_with fail
  refine (S3.start_any _ _).mono ?_
  rintro _ w1 ⟨rfl, hb1⟩
  rw [show S3.start3 true = Y from HY.out]
  have hA := Row.new w1 69 (C .u64 (Z 8))
  have hL2 := Below.more hb1 hb1.size (.cells (C .u64 (Z 8)).toArray 69)
  have hsz := hb1.size
  have iH : (Tryd.prog.info? 69).map (·.size) = some (C .u64 Y.list).length := S3.i8
  have hH : (C .u64 (Z 8)).length = (C .u64 Y.list).length := rfl
  clear hb1
  go_upto_region 11 with (first | refine wpList_alloc_row rfl 69 rfl _ S3.z8 ?_ | (refine wpList_store_R rfl 69 _ _ rfl _ (C .u64 Y.list) rfl rfl hA iH hH (C_allL _ _) ?_; intro w2 hA2 hg2 hz2))
  have hL3 := below_grown hL2.1 hg2 hsz hA.lt
  have hsz2 : w1.heap.size < w2.heap.size := hA2.lt
  have hN := Row.new w2.drew 86 cs
  have hL4 := Below.more hL3.drew (show w.heap.size ≤ w2.drew.heap.size from hL3.size) (.cells cs.toArray 86)
  clear hA hL2 hg2 hz2
  refine wp_region_noPanic ?_
  refine wp_region_held_drew (S := fun w' => Row w' w1.heap.size 69 (C .u64 Y.list)) (by kernel_rfl) (hA2.drew) (fun hHeld => ?_)
  refine wpAnyH_takeL (i := 0) (v := (.agg (C .u64 Y.list).toArray)) rfl (by kernel_rfl) (by kernel_rfl) (by kernel_rfl) (fun _ _ _ h => h) (by rfl) ?h0b10 (by assumption) ?_
  case h0b10 => intro w hSw; exact exec_load_R 69 _ rfl rfl hSw Tryd.underlying69 S3.i8
  simp only [Act.put, List.setIfInBounds_toArray, List.set_cons_zero, List.set_cons_succ]
  refine wpAnyH_takeL (i := 1) (v := ?v1b10) rfl (by kernel_rfl) (by kernel_rfl) (by kernel_rfl) (fun _ _ _ h => h) (by rfl) ?h1b10 (by assumption) ?_
  case h1b10 => intro w hSw; go_simp <;> with_reducible rfl
  simp only [Act.put, List.setIfInBounds_toArray, List.set_cons_zero, List.set_cons_succ]
  refine allReadyH_oneL (i := 2) (by kernel_rfl) rfl (by rfl) (fun K hK => ?_)
  go_simp
  refine (size_any 10 _).mono ?_
  rintro _ w5 ⟨rfl, rfl⟩
  refine hK.out _ _ (hA2.drew) (fun hHeld => ?_)
  clear hK K
  refine allReadyH_oneL (i := 3) (by kernel_rfl) rfl (by rfl) (fun K hK => ?_)
  refine wp_built rfl (cs := cs.toArray) (by simp only [List.map_toArray, List.map_cons, List.map_nil, Act.eval]; exact HB.out) ?_
  refine hK.out _ _ (hA2.drew) (fun hHeld => ?_)
  clear hK K
  refine allReadyH_oneL (i := 4) (by kernel_rfl) rfl (by rfl) (fun K hK => ?_)
  go_simp
  refine hK.out _ _ ((hA2.drew).alloc _) (fun hHeld => ?_)
  clear hK K
  refine allReadyH_oneL (i := 5) (by kernel_rfl) rfl (by rfl) (fun K hK => ?_)
  refine wp_value (.iface 83 (.pointer (some ⟨w2.heap.size, 0, none⟩))) (by go_simp <;> with_reducible rfl) ?_
  refine hK.out _ _ ((hA2.drew).alloc _) (fun hHeld => ?_)
  clear hK K
  refine allReadyH_oneL (i := 6) (by kernel_rfl) rfl (by rfl) (fun K hK => ?_)
  refine wp_value (.iface 83 (.pointer (some ⟨w2.heap.size, 0, none⟩))) (by go_simp <;> with_reducible rfl) ?_
  refine hK.out _ _ ((hA2.drew).alloc _) (fun hHeld => ?_)
  clear hK K
  refine wpAnyH_done (by kernel_rfl) ?_ _
  refine NoPanic.normal ?_
  simp only [Act.put, List.setIfInBounds_toArray, List.set_cons_zero, List.set_cons_succ]
  go_wp2
  go_ret
  refine ⟨_, rfl, ⟨by omega, ?_, World.ownsRow_nil _ 2 _ 1⟩, by omega, hL4.1⟩
  show Row _ _ _ (W3.cells (S3.start3 (lg3 10)) (.slice none 0 0) 0 (siz 10))
  rw [HC.out]
  exact hN
theorem begun_no (a : Int) (h : ¬ Kn a) (w : World) : Calls Tryd.prog 27 #[.int .i64 a] w fun e w' => e = .returned .nilIface ∧ w = w' := by
  obtain ⟨h1, h2, h3, h4, h5⟩ := not_kn h
  clear h
  go_enter Tryd.func27, Tryd.ntmps27
  go_wp2
  go_ret
  exact ⟨rfl, rfl⟩
theorem new_no (a : Int) (h : ¬ Kn a) (w : World) : Calls Tryd.prog 14 #[.int .i64 a] w fun e w' => e = .returned (.tuple #[.pointer none, .int .i64 9]) ∧ w = w' := by
  have hq : ∀ w, (binOp .eql 53 .nilIface .nilIface).run Tryd.prog w = .ok (.bool true) w := fun _ => by rfl
  go_enter Tryd.func14, Tryd.ntmps14
  go_wp2_with fail
  refine (begun_no a h w).mono ?_
  rintro _ w1 ⟨rfl, rfl⟩
  go_wp2
  go_ret2
  exact ⟨rfl, rfl⟩
theorem new_2 (w : World) (hT : Tabs w) : Calls Tryd.prog 14 #[.int .i64 2] w fun e w' => ∃ hp q, e = .returned (.tuple #[.pointer (some ⟨hp, 0, none⟩), .int .i64 0]) ∧ HI w' 2 hp q (.slice none 0 0) [] ∧ w.heap.size ≤ hp ∧ w.heap.size ≤ q ∧ Below w.heap.size w w' := by
  have h2 : 2 ≤ w.heap.size := hT.b.pos
  go_enter Tryd.func14, Tryd.ntmps14
  go_wp2_with fail
  refine (begun_2 w hT).mono ?_
  rintro _ w1 ⟨q1, rfl, hI, hq, hb⟩
  have hqn : ∀ w, (binOp .eql 53 (.iface 75 (.pointer (some ⟨q1, 0, none⟩))) .nilIface).run Tryd.prog w = .ok (.bool false) w := fun _ => by rfl
  have hN := Row.new w1 56 [.iface 75 (.pointer (some ⟨q1, 0, none⟩))]
  have hL := Below.more (Below.refl w1.heap.size w1) (Nat.le_refl _) (.cells [Value.iface 75 (.pointer (some ⟨q1, 0, none⟩))].toArray 56)
  have hI2 := hI.below hL.1
  have hb2 := hb.trans (hL.1.mono hb.size)
  have hsz := hb.size
  clear hL hI hb
  go_wp2
  go_ret2
  exact ⟨_, _, rfl, ⟨by omega, .inl ⟨rfl, hN, hI2⟩⟩, hsz, hq, hb2⟩
theorem new_8 (w : World) (hT : Tabs w) : Calls Tryd.prog 14 #[.int .i64 8] w fun e w' => ∃ hp q, e = .returned (.tuple #[.pointer (some ⟨hp, 0, none⟩), .int .i64 0]) ∧ HI w' 8 hp q (.slice none 0 0) [] ∧ w.heap.size ≤ hp ∧ w.heap.size ≤ q ∧ Below w.heap.size w w' := by
  have h2 : 2 ≤ w.heap.size := hT.b.pos
  go_enter Tryd.func14, Tryd.ntmps14
  go_wp2_with fail
  refine (begun_8 w hT).mono ?_
  rintro _ w1 ⟨q1, rfl, hI, hq, hb⟩
  have hqn : ∀ w, (binOp .eql 53 (.iface 79 (.pointer (some ⟨q1, 0, none⟩))) .nilIface).run Tryd.prog w = .ok (.bool false) w := fun _ => by rfl
  have hN := Row.new w1 56 [.iface 79 (.pointer (some ⟨q1, 0, none⟩))]
  have hL := Below.more (Below.refl w1.heap.size w1) (Nat.le_refl _) (.cells [Value.iface 79 (.pointer (some ⟨q1, 0, none⟩))].toArray 56)
  have hI2 := hI.below hL.1
  have hb2 := hb.trans (hL.1.mono hb.size)
  have hsz := hb.size
  clear hL hI hb
  go_wp2
  go_ret2
  exact ⟨_, _, rfl, ⟨by omega, .inr (.inl ⟨by decide, hN, hI2⟩)⟩, hsz, hq, hb2⟩
theorem new_11 (w : World) (hT : Tabs w) : Calls Tryd.prog 14 #[.int .i64 11] w fun e w' => ∃ hp q, e = .returned (.tuple #[.pointer (some ⟨hp, 0, none⟩), .int .i64 0]) ∧ HI w' 11 hp q (.slice none 0 0) [] ∧ w.heap.size ≤ hp ∧ w.heap.size ≤ q ∧ Below w.heap.size w w' := by
  have h2 : 2 ≤ w.heap.size := hT.b.pos
  go_enter Tryd.func14, Tryd.ntmps14
  go_wp2_with fail
  refine (begun_11 w hT).mono ?_
  rintro _ w1 ⟨q1, rfl, hI, hq, hb⟩
  have hqn : ∀ w, (binOp .eql 53 (.iface 79 (.pointer (some ⟨q1, 0, none⟩))) .nilIface).run Tryd.prog w = .ok (.bool false) w := fun _ => by rfl
  have hN := Row.new w1 56 [.iface 79 (.pointer (some ⟨q1, 0, none⟩))]
  have hL := Below.more (Below.refl w1.heap.size w1) (Nat.le_refl _) (.cells [Value.iface 79 (.pointer (some ⟨q1, 0, none⟩))].toArray 56)
  have hI2 := hI.below hL.1
  have hb2 := hb.trans (hL.1.mono hb.size)
  have hsz := hb.size
  clear hL hI hb
  go_wp2
  go_ret2
  exact ⟨_, _, rfl, ⟨by omega, .inr (.inl ⟨by decide, hN, hI2⟩)⟩, hsz, hq, hb2⟩
theorem new_9 (w : World) (hT : Tabs w) : Calls Tryd.prog 14 #[.int .i64 9] w fun e w' => ∃ hp q, e = .returned (.tuple #[.pointer (some ⟨hp, 0, none⟩), .int .i64 0]) ∧ HI w' 9 hp q (.slice none 0 0) [] ∧ w.heap.size ≤ hp ∧ w.heap.size ≤ q ∧ Below w.heap.size w w' := by
  have h2 : 2 ≤ w.heap.size := hT.b.pos
  go_enter Tryd.func14, Tryd.ntmps14
  go_wp2_with fail
  refine (begun_9 w hT).mono ?_
  rintro _ w1 ⟨q1, rfl, hI, hq, hb⟩
  have hqn : ∀ w, (binOp .eql 53 (.iface 83 (.pointer (some ⟨q1, 0, none⟩))) .nilIface).run Tryd.prog w = .ok (.bool false) w := fun _ => by rfl
  have hN := Row.new w1 56 [.iface 83 (.pointer (some ⟨q1, 0, none⟩))]
  have hL := Below.more (Below.refl w1.heap.size w1) (Nat.le_refl _) (.cells [Value.iface 83 (.pointer (some ⟨q1, 0, none⟩))].toArray 56)
  have hI2 := hI.below hL.1
  have hb2 := hb.trans (hL.1.mono hb.size)
  have hsz := hb.size
  clear hL hI hb
  go_wp2
  go_ret2
  exact ⟨_, _, rfl, ⟨by omega, .inr (.inr ⟨by decide, hN, hI2⟩)⟩, hsz, hq, hb2⟩
theorem new_10 (w : World) (hT : Tabs w) : Calls Tryd.prog 14 #[.int .i64 10] w fun e w' => ∃ hp q, e = .returned (.tuple #[.pointer (some ⟨hp, 0, none⟩), .int .i64 0]) ∧ HI w' 10 hp q (.slice none 0 0) [] ∧ w.heap.size ≤ hp ∧ w.heap.size ≤ q ∧ Below w.heap.size w w' := by
  have h2 : 2 ≤ w.heap.size := hT.b.pos
  go_enter Tryd.func14, Tryd.ntmps14
  go_wp2_with fail
  refine (begun_10 w hT).mono ?_
  rintro _ w1 ⟨q1, rfl, hI, hq, hb⟩
  have hqn : ∀ w, (binOp .eql 53 (.iface 83 (.pointer (some ⟨q1, 0, none⟩))) .nilIface).run Tryd.prog w = .ok (.bool false) w := fun _ => by rfl
  have hN := Row.new w1 56 [.iface 83 (.pointer (some ⟨q1, 0, none⟩))]
  have hL := Below.more (Below.refl w1.heap.size w1) (Nat.le_refl _) (.cells [Value.iface 83 (.pointer (some ⟨q1, 0, none⟩))].toArray 56)
  have hI2 := hI.below hL.1
  have hb2 := hb.trans (hL.1.mono hb.size)
  have hsz := hb.size
  clear hL hI hb
  go_wp2
  go_ret2
  exact ⟨_, _, rfl, ⟨by omega, .inr (.inr ⟨by decide, hN, hI2⟩)⟩, hsz, hq, hb2⟩
theorem new_any (a : Int) (h : Kn a) (w : World) (hT : Tabs w) : Calls Tryd.prog 14 #[.int .i64 a] w fun e w' => ∃ hp q, e = .returned (.tuple #[.pointer (some ⟨hp, 0, none⟩), .int .i64 0]) ∧ HI w' a hp q (.slice none 0 0) [] ∧ w.heap.size ≤ hp ∧ w.heap.size ≤ q ∧ Below w.heap.size w w' := by
  rcases h with rfl | rfl | rfl | rfl | rfl
  · exact new_2 w hT
  · exact new_8 w hT
  · exact new_9 w hT
  · exact new_10 w hT
  · exact new_11 w hT
end Go.Proofs.YtmbaenodibfedaaDoor.S9
namespace Go.Proofs.YtmbaenodibfedaaDoor.S9
open Go.RowKit
set_option linter.unusedVariables false

theorem exec_conv {P : Program} {w : World} {o : Oper} {ev : Operand → Value} {src dst : TypeId} {x : Operand} {v r : Value} (ho : o.op = .convert src dst x) (hx : ev x = v) (h : (convert src dst v).run P w = .ok r w) : (execOp ev o).run P w = .ok (.value r) w := by
  unfold execOp
  simp only [ho, hx, Sem.run_bind, h, Result.andThen_ok, Sem.run_pure]
/-- What a law's last question reads: a hash, the bytes that are wanted. -/
def Seen (a : Int) (hp q : Nat) (v y : Value) (bs D : List Nat) (w : World) : Prop := HI w a hp q v bs ∧ SlV w y (C .u8 D) ∧ Tabs w
theorem Seen.below {a : Int} {hp q : Nat} {v y : Value} {bs D : List Nat} {w w' : World} (h : Seen a hp q v y bs D w) (hb : Below w.heap.size w w') : Seen a hp q v y bs D w' := ⟨h.1.below hb, h.2.1.below hb, h.2.2.below hb⟩
theorem HI.drew {w : World} {a : Int} {hp q : Nat} {v : Value} {bs : List Nat} (h : HI w a hp q v bs) : HI w.drew a hp q v bs := h.below ⟨rfl, rfl, rfl, Nat.le_refl _, fun _ _ => rfl⟩
theorem Seen.drew {a : Int} {hp q : Nat} {v y : Value} {bs D : List Nat} {w : World} (h : Seen a hp q v y bs D w) : Seen a hp q v y bs D w.drew := h.below ⟨rfl, rfl, rfl, Nat.le_refl _, fun _ _ => rfl⟩
end Go.Proofs.YtmbaenodibfedaaDoor.S9
