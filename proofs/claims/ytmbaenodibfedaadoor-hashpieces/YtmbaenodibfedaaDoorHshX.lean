/-
  A hash that goes on: a twin, a copy, how many bytes, the hash told, by each of the three kinds of numbers. Over this seat's translation. Conditions: as each says.
-/
import Derived.Test.YtmbaenodibfedaaDoorHshW1
import Derived.Test.YtmbaenodibfedaaDoorHshW2
import Derived.Test.YtmbaenodibfedaaDoorHshW3
namespace Go.Proofs.YtmbaenodibfedaaDoor.S9
open Go.RowKit
set_option linter.unusedVariables false
set_option maxRecDepth 10000

theorem cn_lo (B c : Nat) : Lo 256 (cn B c) := by
  have h8 : Lo 256 (S1.be8 c) := by
    intro x hx
    simp only [S1.be8, List.mem_cons, List.not_mem_nil, or_false] at hx
    rcases hx with rfl | rfl | rfl | rfl | rfl | rfl | rfl | rfl <;> exact Nat.mod_lt _ (by decide)
  unfold cn
  split
  · exact S3.cnt_lo c
  · exact h8
theorem pdg_lo (B c x : Nat) : Lo 256 (pdg B c x) := by
  intro y hy
  rcases List.mem_cons.1 hy with rfl | hy
  · decide
  · rcases List.mem_append.1 hy with hy | hy
    · exact Z_lo (by decide) _ y hy
    · exact cn_lo _ _ y hy
theorem pdg_length (B c x : Nat) (hB : 0 < B) (h2 : B ≤ 128) : (pdg B c x).length ≤ 200 := by
  have := Nat.mod_lt (B - (x + (c + 1)) % B) hB
  have h3 := cn_length B (8 * x)
  unfold pdg
  rw [List.length_cons, List.length_append, Z_length, h3]
  split <;> omega

namespace W1
/-- The struct, made. -/
def zcells : List Value := C .u32 (Z 5) ++ [Value.slice none 0 0, .int .u64 0, .int .i64 0, .int .i64 0, .nilFunc, .nilFunc]
theorem zT (w : World) : (zeroValue 78).run Tryd.prog w = .ok (.agg zcells.toArray) w := by kernel_rfl
theorem iT : (Tryd.prog.info? 78).map (·.size) = some (5 + 6) := by kernel_rfl
theorem cells_one (S : S1.S5) {v : Value} (hv : v.oneCell' = true) (all size : Nat) : (cells S v all size).all (·.oneCell') = true := by
  unfold cells
  rw [List.all_append, C_allL, List.all_cons, hv]
  rfl
theorem KI.below {w w' : World} {q : Nat} {v : Value} {s0 : S1.S5} {bs : List Nat} {all size : Nat} (h : KI w q v s0 bs all size) (hb : Below w.heap.size w w') : KI w' q v s0 bs all size :=
  ⟨h.at2, h.row.belowS hb, own_below h.own hb⟩
theorem KI.kp {w w' : World} {q q2 : Nat} {v : Value} {r : Option Nat} {s0 : S1.S5} {bs : List Nat} {all size : Nat} (h : KI w q v s0 bs all size) (hk : Kp q2 r w w') (h1 : q ≠ q2) (h2 : some q ≠ r) (h3 : v.ownBlock ≠ some q2) (h4 : v.ownBlock = none ∨ v.ownBlock ≠ r) : KI w' q v s0 bs all size :=
  ⟨h.at2, hk.row h.row h1 h2, hk.own h.own h3 h4⟩
theorem twin_any (q : Nat) (v : Value) (s0 : S1.S5) (bs : List Nat) (all size : Nat) (w : World) (h : KI w q v s0 bs all size) :
    Calls Tryd.prog 99 #[.pointer (some ⟨q, 0, none⟩)] w fun e w' => ∃ q' v', e = .returned (.pointer (some ⟨q', 0, none⟩)) ∧ KI w' q' v' s0 bs all size ∧ w.heap.size ≤ q' ∧ (∀ k, v'.ownBlock = some k → w.heap.size ≤ k) ∧ Below w.heap.size w w' := by
  obtain ⟨hq2, hrow, hown⟩ := h
  obtain ⟨Y, hY⟩ : ∃ Y, now S1.blk1 64 s0 bs = Y := ⟨_, rfl⟩
  rw [hY] at hrow
  have HY := Away.mk hY
  clear hY
  have h2w : 2 ≤ w.heap.size := Nat.le_trans hq2 (Nat.le_of_lt hrow.lt)
  have hN := Row.new w 78 zcells
  have hL := Below.more (Below.refl w.heap.size w) (Nat.le_refl _) (.cells zcells.toArray 78)
  have h1 := cells_one Y (own_oneCell hown) all size
  have hi1 : (Tryd.prog.info? 78).map (·.size) = some (cells Y v all size).toArray.size := iT
  have hi2 : (Tryd.prog.info? 78).map (·.size) = some (cells Y v all size).length := iT
  have ho2 : zcells.length = (cells Y v all size).length := rfl
  go_enter Tryd.func99, Tryd.ntmps99
  go_upto_region 2 with (first | refine wpList_load_row rfl 78 _ rfl _ rfl _ _ _ _ hrow Tryd.underlying78 rfl hi1 ?_ | refine wpList_alloc_row rfl 78 rfl _ zT ?_ | (refine wpList_store_R rfl 78 _ _ rfl _ (cells Y v all size) rfl rfl hN hi2 ho2 h1 ?_; intro w2 hR2 hg2 hz2))
  have hL2 := below_grown hL.1 hg2 (Nat.le_refl _) hN.lt
  have hrow2 := hrow.belowS hL2
  have hown2 := own_below hown hL2
  have hcr := cell_rest hrow2
  clear hN hL hg2 hz2 h1 hi1 hi2 ho2 hrow
  go_wp2_with fail
  refine (clone_any v (rst 64 bs) _ (SlV.ofOwn hown2) (by rw [rst_len]; omega)).mono ?_
  rintro _ w3 ⟨v3, rfl, ho3, hb3⟩
  rw [rst_len] at ho3
  obtain ⟨a3, c3, rfl, hs1, hs2⟩ := (SlV.ofOwn ho3).shp (n := bs.length % 64) (rst_len bs)
  have hR3 := hR2.belowS hb3
  have hL3 := hL2.trans (hb3.mono hL2.size)
  have hsz := hL2.size
  have hfr := hR3.frozen 5
  have hcr3 := cell_rest hR3
  have hR4 := set_rest hR3 (.slice a3 (bs.length % 64) c3)
  have ho4 := ho3.kept (grown_set w3 w.heap.size 5 (.slice a3 (bs.length % 64) c3)) (.inr (own_ne ho3 hR3 (by decide)))
  have hvl : ∀ k, (Value.slice a3 (bs.length % 64) c3).ownBlock = some k → w.heap.size ≤ k := fun k hk => Nat.le_trans hsz (ho3.lt k hk).1
  have hL4 := below_setCell hL3 (Nat.le_refl w.heap.size) (i := 5) (.slice a3 (bs.length % 64) c3)
  clear hR2 hb3 hL2 hL3 hrow2 hown2 hcr hown
  go_wp2
  go_ret
  exact ⟨_, _, rfl, ⟨h2w, by rw [HY.out]; exact hR4, own_base ho4 (by omega)⟩, Nat.le_refl _, hvl, hL4⟩
theorem copied_any (q : Nat) (v : Value) (s0 : S1.S5) (bs : List Nat) (all size : Nat) (w : World) (h : KI w q v s0 bs all size) :
    Calls Tryd.prog 95 #[.pointer (some ⟨q, 0, none⟩)] w fun e w' => ∃ q' v', e = .returned (.iface 75 (.pointer (some ⟨q', 0, none⟩))) ∧ KI w' q' v' s0 bs all size ∧ w.heap.size ≤ q' ∧ (∀ k, v'.ownBlock = some k → w.heap.size ≤ k) ∧ Below w.heap.size w w' := by
  go_enter Tryd.func95, Tryd.ntmps95
  go_wp2_with fail
  refine (twin_any q v s0 bs all size w h).mono ?_
  rintro _ w2 ⟨q2, v2, rfl, hI, hq, hv, hb⟩
  clear h
  go_wp2
  go_ret
  exact ⟨_, _, rfl, hI, hq, hv, hb⟩
theorem length_any (q : Nat) (v : Value) (s0 : S1.S5) (bs : List Nat) (all size : Nat) (w : World) (h : KI w q v s0 bs all size) :
    Calls Tryd.prog 96 #[.pointer (some ⟨q, 0, none⟩)] w fun e w' => e = .returned (.int .u64 (all : Int)) ∧ w = w' := by
  have hc := cell_all h.row
  clear h
  go_enter Tryd.func96, Tryd.ntmps96
  go_wp2
  go_ret
  exact ⟨rfl, rfl⟩
theorem pad_ne {w' : World} {base n q : Nat} {v : Value} {xs : List Value} (h : w'.ownsRow base 5 1 v n xs) (hq : q < base) : v.ownBlock ≠ some q := fun e => by
  have := (h.lt q e).1
  omega
theorem pad_ne2 {w w' : World} {base n b2 n2 : Nat} {e2 : TypeId} {v v2 : Value} {xs ys : List Value} (h : w'.ownsRow base 5 1 v n xs) (h2 : w.ownsRow b2 e2 1 v2 n2 ys) (hb : w.heap.size ≤ base) : v.ownBlock = none ∨ v.ownBlock ≠ v2.ownBlock := by
  by_cases hn : v.ownBlock = none
  · exact .inl hn
  · obtain ⟨k, hk⟩ := Option.ne_none_iff_exists'.1 hn
    refine .inr (fun e => ?_)
    have h3 := (h.lt k hk).1
    have h4 := (h2.lt k (e ▸ hk)).2
    omega
set_option maxHeartbeats 800000 in
theorem sum_any (q : Nat) (v : Value) (s0 : S1.S5) (hs0 : s0.ok) (bs : List Nat) (hbs : Lo 256 bs) (hm : bs.length < 1152921504606846000) (size : Nat) (hsz : size ≤ 20) (w : World) (h : KI w q v s0 bs bs.length size) (hT : Tabs w) :
    Calls Tryd.prog 97 #[.pointer (some ⟨q, 0, none⟩)] w fun e w' => ∃ v', e = .returned v' ∧ w'.ownsRow w.heap.size 5 1 v' size (C .u8 ((S1.out1 (now S1.blk1 64 s0 (bs ++ pdg 64 8 bs.length))).take size)) ∧ Below w.heap.size w w' := by
  obtain ⟨n, hn⟩ : ∃ n, bs.length = n := ⟨_, rfl⟩
  go_enter Tryd.func97, Tryd.ntmps97
  go_wp2_with fail
  refine (twin_any q v s0 bs _ size w h).mono ?_
  rintro _ w1 ⟨q1, v1, rfl, hI1, hq1, hv1, hb1⟩
  have hI := h.below hb1
  have hT1 := hT.below hb1
  have hqlt := h.row.lt
  have hca := cell_all hI.row
  have hcb := cell_block hI.row
  clear h
  have hca' : w1.cell? ⟨q, 6, none⟩ = some (.int .u64 (n : Int)) := by rw [← hn]; exact hca
  have hm' : n < 1152921504606846000 := by omega
  have hbsn := Away.mk hn
  have hmA := Away.mk hm
  have hmA' := Away.mk hm'
  have hq11 := hI1.row.lt
  clear hca hn hm hm'
  go_wp2_with fail
  go_region_with (first
    | (go_at_call 100; refine (padding_small n hmA'.out _).mono ?_; rintro _ w2 ⟨pv, pn, rfl, hpo, hb2⟩)
    | (go_at_call 98; refine (write_any q1 v1 s0 hs0 bs size _ (hI1.below (below_of_drew hb2)) hbs pv (pdg 64 8 n) (pdg_lo _ _ _) (SlV.ofOwn hpo) (fun _ => pad_ne hpo hq11) (fun _ => pad_ne2 hpo hI1.own (Nat.le_refl _)) (by have := hmA.out; have := pdg_length 64 8 n (by decide) (by decide); omega) (hT1.below (below_of_drew hb2))).mono ?_; rintro _ w3 ⟨rfl, v3, hI3, hk3, hv3⟩))
  all_goals (
    have hb3 : Below w.heap.size w w3 := Kp.below (hb1.trans ((below_of_drew hb2).mono hb1.size)) hk3 (Nat.le_trans hb1.size (below_of_drew hb2).size) hq1 hv1
    obtain ⟨hq12, hrow3, hown3⟩ := hI3
    obtain ⟨G, hG⟩ : ∃ G, (bs ++ pdg 64 8 n).length = G := ⟨_, rfl⟩
    obtain ⟨Y, hY⟩ : ∃ Y, now S1.blk1 64 s0 (bs ++ pdg 64 8 n) = Y := ⟨_, rfl⟩
    have hYo : Y.ok := by rw [← hY]; exact now_ok hs0 _
    rw [hG, hY] at hrow3
    have HY := Away.mk hY
    clear hG hY hI1 hI hT1 hca' hcb hpo hb2 hk3 hv3 hown3
    go_wp2_with fail
    refine wp_region_noPanic ?_
    refine wp_region_held_drew (S := fun w' => Row w' q1 78 (cells Y v3 G size)) (by kernel_rfl) (hrow3.drew) (fun hHeld => ?_)
    refine wpAnyH_takeL (i := 0) (v := ?v0s3) rfl (by kernel_rfl) (by kernel_rfl) (by kernel_rfl) (fun _ _ _ h => h) (by rfl) ?h0s3 (by assumption) ?_
    case h0s3 => intro w hSw; go_simp <;> with_reducible rfl
    simp only [Act.put, List.setIfInBounds_toArray, List.set_cons_zero, List.set_cons_succ]
    refine wpAnyH_takeL (i := 1) (v := ?v1s3) rfl (by kernel_rfl) (by kernel_rfl) (by kernel_rfl) (fun _ _ _ h => h) (by rfl) ?h1s3 (by assumption) ?_
    case h1s3 => intro w hSw; go_simp <;> with_reducible rfl
    simp only [Act.put, List.setIfInBounds_toArray, List.set_cons_zero, List.set_cons_succ]
    refine wpAnyH_takeL (i := 2) (v := ?v2s3) rfl (by kernel_rfl) (by kernel_rfl) (by kernel_rfl) (fun _ _ _ h => h) (by rfl) ?h2s3 (by assumption) ?_
    case h2s3 => intro w hSw; go_simp <;> with_reducible rfl
    simp only [Act.put, List.setIfInBounds_toArray, List.set_cons_zero, List.set_cons_succ]
    refine wpAnyH_takeL (i := 3) (v := (.func (.func 47) #[] #[])) rfl (by kernel_rfl) (by kernel_rfl) (by kernel_rfl) (fun _ _ _ h => h) (by rfl) ?h3s3 (by assumption) ?_
    case h3s3 => intro w hSw; exact exec_load_cell _ _ rfl rfl (cell_tell hSw) Tryd.underlying76 rfl
    simp only [Act.put, List.setIfInBounds_toArray, List.set_cons_zero, List.set_cons_succ]
    refine wpAnyH_takeL (i := 4) (v := ?v4s3) rfl (by kernel_rfl) (by kernel_rfl) (by kernel_rfl) (fun _ _ _ h => h) (by rfl) ?h4s3 (by assumption) ?_
    case h4s3 => intro w hSw; go_simp <;> with_reducible rfl
    simp only [Act.put, List.setIfInBounds_toArray, List.set_cons_zero, List.set_cons_succ]
    refine wpAnyH_takeL (i := 5) (v := ?v5s3) rfl (by kernel_rfl) (by kernel_rfl) (by kernel_rfl) (fun _ _ _ h => h) (by rfl) ?h5s3 (by assumption) ?_
    case h5s3 => intro w hSw; go_simp <;> with_reducible rfl
    simp only [Act.put, List.setIfInBounds_toArray, List.set_cons_zero, List.set_cons_succ]
    refine wpAnyH_takeL (i := 6) (v := ?v6s3) rfl (by kernel_rfl) (by kernel_rfl) (by kernel_rfl) (fun _ _ _ h => h) (by rfl) ?h6s3 (by assumption) ?_
    case h6s3 => intro w hSw; go_simp <;> with_reducible rfl
    simp only [Act.put, List.setIfInBounds_toArray, List.set_cons_zero, List.set_cons_succ]
    refine wpAnyH_takeL (i := 7) (v := (.agg (C .u32 Y.list).toArray)) rfl (by kernel_rfl) (by kernel_rfl) (by kernel_rfl) (fun _ _ _ h => h) (by rfl) ?h7s3 (by assumption) ?_
    case h7s3 => intro w hSw; exact exec_load_head 59 _ rfl rfl (show Row _ _ _ (C .u32 Y.list ++ _) from hSw) Tryd.underlying59 S1.i5
    simp only [Act.put, List.setIfInBounds_toArray, List.set_cons_zero, List.set_cons_succ]
    refine wpAnyH_takeL (i := 8) (v := ?v8s3) rfl (by kernel_rfl) (by kernel_rfl) (by kernel_rfl) (fun _ _ _ h => h) (by rfl) ?h8s3 (by assumption) ?_
    case h8s3 => intro w hSw; go_simp <;> with_reducible rfl
    simp only [Act.put, List.setIfInBounds_toArray, List.set_cons_zero, List.set_cons_succ]
    refine wpAnyH_takeL (i := 9) (v := ?v9s3) rfl (by kernel_rfl) (by kernel_rfl) (by kernel_rfl) (fun _ _ _ h => h) (by rfl) ?h9s3 (by assumption) ?_
    case h9s3 => intro w hSw; go_simp <;> with_reducible rfl
    simp only [Act.put, List.setIfInBounds_toArray, List.set_cons_zero, List.set_cons_succ]
    refine wpAnyH_takeL (i := 10) (v := ?v10s3) rfl (by kernel_rfl) (by kernel_rfl) (by kernel_rfl) (fun _ _ _ h => h) (by rfl) ?h10s3 (by assumption) ?_
    case h10s3 => intro w hSw; go_simp <;> with_reducible rfl
    simp only [Act.put, List.setIfInBounds_toArray, List.set_cons_zero, List.set_cons_succ]
    refine wpAnyH_takeL (i := 11) (v := (.int .i64 (size : Int))) rfl (by kernel_rfl) (by kernel_rfl) (by kernel_rfl) (fun _ _ _ h => h) (by rfl) ?h11s3 (by assumption) ?_
    case h11s3 => intro w hSw; exact exec_load_cell 3 _ rfl rfl (cell_size hSw) Tryd.underlying3 rfl
    simp only [Act.put, List.setIfInBounds_toArray, List.set_cons_zero, List.set_cons_succ]
    refine allReadyH_oneL (i := 12) (by kernel_rfl) rfl (by rfl) (fun K hK => ?_)
    go_simp
    refine (tells_any Y hYo size hsz _).mono ?_
    rintro _ w4 ⟨v4, rfl, ho4, hb4⟩
    have hR4 := hrow3.drew.belowS hb4
    refine hK.out _ _ (hR4) (fun hHeld => ?_)
    clear hK K
    refine allReadyH_oneL (i := 13) (by kernel_rfl) rfl (by rfl) (fun K hK => ?_)
    refine wp_value v4 (by go_simp <;> with_reducible rfl) ?_
    refine hK.out _ _ (hR4) (fun hHeld => ?_)
    clear hK K
    refine wpAnyH_done (by kernel_rfl) ?_ _
    refine NoPanic.normal ?_
    simp only [Act.put, List.setIfInBounds_toArray, List.set_cons_zero, List.set_cons_succ]
    have hb5 := hb3.trans ((below_of_drew hb4).mono hb3.size)
    have ho5 := own_base ho4 (show w.heap.size ≤ w3.drew.heap.size from hb3.size)
    go_wp2
    go_ret
    exact ⟨_, rfl, by rw [hbsn.out, HY.out]; exact ho5, hb5⟩)
end W1
namespace W2
/-- The struct, made. -/
def zcells : List Value := C .u32 (Z 8) ++ [Value.slice none 0 0, .int .u64 0, .int .i64 0, .int .i64 0, .nilFunc, .nilFunc]
theorem zT (w : World) : (zeroValue 82).run Tryd.prog w = .ok (.agg zcells.toArray) w := by kernel_rfl
theorem iT : (Tryd.prog.info? 82).map (·.size) = some (8 + 6) := by kernel_rfl
theorem cells_one (S : S2.S8) {v : Value} (hv : v.oneCell' = true) (all size : Nat) : (cells S v all size).all (·.oneCell') = true := by
  unfold cells
  rw [List.all_append, C_allL, List.all_cons, hv]
  rfl
theorem KI.below {w w' : World} {q : Nat} {v : Value} {s0 : S2.S8} {bs : List Nat} {all size : Nat} (h : KI w q v s0 bs all size) (hb : Below w.heap.size w w') : KI w' q v s0 bs all size :=
  ⟨h.at2, h.row.belowS hb, own_below h.own hb⟩
theorem KI.kp {w w' : World} {q q2 : Nat} {v : Value} {r : Option Nat} {s0 : S2.S8} {bs : List Nat} {all size : Nat} (h : KI w q v s0 bs all size) (hk : Kp q2 r w w') (h1 : q ≠ q2) (h2 : some q ≠ r) (h3 : v.ownBlock ≠ some q2) (h4 : v.ownBlock = none ∨ v.ownBlock ≠ r) : KI w' q v s0 bs all size :=
  ⟨h.at2, hk.row h.row h1 h2, hk.own h.own h3 h4⟩
theorem twin_any (q : Nat) (v : Value) (s0 : S2.S8) (bs : List Nat) (all size : Nat) (w : World) (h : KI w q v s0 bs all size) :
    Calls Tryd.prog 106 #[.pointer (some ⟨q, 0, none⟩)] w fun e w' => ∃ q' v', e = .returned (.pointer (some ⟨q', 0, none⟩)) ∧ KI w' q' v' s0 bs all size ∧ w.heap.size ≤ q' ∧ (∀ k, v'.ownBlock = some k → w.heap.size ≤ k) ∧ Below w.heap.size w w' := by
  obtain ⟨hq2, hrow, hown⟩ := h
  obtain ⟨Y, hY⟩ : ∃ Y, now S2.blk2 64 s0 bs = Y := ⟨_, rfl⟩
  rw [hY] at hrow
  have HY := Away.mk hY
  clear hY
  have h2w : 2 ≤ w.heap.size := Nat.le_trans hq2 (Nat.le_of_lt hrow.lt)
  have hN := Row.new w 82 zcells
  have hL := Below.more (Below.refl w.heap.size w) (Nat.le_refl _) (.cells zcells.toArray 82)
  have h1 := cells_one Y (own_oneCell hown) all size
  have hi1 : (Tryd.prog.info? 82).map (·.size) = some (cells Y v all size).toArray.size := iT
  have hi2 : (Tryd.prog.info? 82).map (·.size) = some (cells Y v all size).length := iT
  have ho2 : zcells.length = (cells Y v all size).length := rfl
  go_enter Tryd.func106, Tryd.ntmps106
  go_upto_region 2 with (first | refine wpList_load_row rfl 82 _ rfl _ rfl _ _ _ _ hrow Tryd.underlying82 rfl hi1 ?_ | refine wpList_alloc_row rfl 82 rfl _ zT ?_ | (refine wpList_store_R rfl 82 _ _ rfl _ (cells Y v all size) rfl rfl hN hi2 ho2 h1 ?_; intro w2 hR2 hg2 hz2))
  have hL2 := below_grown hL.1 hg2 (Nat.le_refl _) hN.lt
  have hrow2 := hrow.belowS hL2
  have hown2 := own_below hown hL2
  have hcr := cell_rest hrow2
  clear hN hL hg2 hz2 h1 hi1 hi2 ho2 hrow
  go_wp2_with fail
  refine (clone_any v (rst 64 bs) _ (SlV.ofOwn hown2) (by rw [rst_len]; omega)).mono ?_
  rintro _ w3 ⟨v3, rfl, ho3, hb3⟩
  rw [rst_len] at ho3
  obtain ⟨a3, c3, rfl, hs1, hs2⟩ := (SlV.ofOwn ho3).shp (n := bs.length % 64) (rst_len bs)
  have hR3 := hR2.belowS hb3
  have hL3 := hL2.trans (hb3.mono hL2.size)
  have hsz := hL2.size
  have hfr := hR3.frozen 8
  have hcr3 := cell_rest hR3
  have hR4 := set_rest hR3 (.slice a3 (bs.length % 64) c3)
  have ho4 := ho3.kept (grown_set w3 w.heap.size 8 (.slice a3 (bs.length % 64) c3)) (.inr (own_ne ho3 hR3 (by decide)))
  have hvl : ∀ k, (Value.slice a3 (bs.length % 64) c3).ownBlock = some k → w.heap.size ≤ k := fun k hk => Nat.le_trans hsz (ho3.lt k hk).1
  have hL4 := below_setCell hL3 (Nat.le_refl w.heap.size) (i := 8) (.slice a3 (bs.length % 64) c3)
  clear hR2 hb3 hL2 hL3 hrow2 hown2 hcr hown
  go_wp2
  go_ret
  exact ⟨_, _, rfl, ⟨h2w, by rw [HY.out]; exact hR4, own_base ho4 (by omega)⟩, Nat.le_refl _, hvl, hL4⟩
theorem copied_any (q : Nat) (v : Value) (s0 : S2.S8) (bs : List Nat) (all size : Nat) (w : World) (h : KI w q v s0 bs all size) :
    Calls Tryd.prog 103 #[.pointer (some ⟨q, 0, none⟩)] w fun e w' => ∃ q' v', e = .returned (.iface 79 (.pointer (some ⟨q', 0, none⟩))) ∧ KI w' q' v' s0 bs all size ∧ w.heap.size ≤ q' ∧ (∀ k, v'.ownBlock = some k → w.heap.size ≤ k) ∧ Below w.heap.size w w' := by
  go_enter Tryd.func103, Tryd.ntmps103
  go_wp2_with fail
  refine (twin_any q v s0 bs all size w h).mono ?_
  rintro _ w2 ⟨q2, v2, rfl, hI, hq, hv, hb⟩
  clear h
  go_wp2
  go_ret
  exact ⟨_, _, rfl, hI, hq, hv, hb⟩
theorem length_any (q : Nat) (v : Value) (s0 : S2.S8) (bs : List Nat) (all size : Nat) (w : World) (h : KI w q v s0 bs all size) :
    Calls Tryd.prog 104 #[.pointer (some ⟨q, 0, none⟩)] w fun e w' => e = .returned (.int .u64 (all : Int)) ∧ w = w' := by
  have hc := cell_all h.row
  clear h
  go_enter Tryd.func104, Tryd.ntmps104
  go_wp2
  go_ret
  exact ⟨rfl, rfl⟩
theorem pad_ne {w' : World} {base n q : Nat} {v : Value} {xs : List Value} (h : w'.ownsRow base 5 1 v n xs) (hq : q < base) : v.ownBlock ≠ some q := fun e => by
  have := (h.lt q e).1
  omega
theorem pad_ne2 {w w' : World} {base n b2 n2 : Nat} {e2 : TypeId} {v v2 : Value} {xs ys : List Value} (h : w'.ownsRow base 5 1 v n xs) (h2 : w.ownsRow b2 e2 1 v2 n2 ys) (hb : w.heap.size ≤ base) : v.ownBlock = none ∨ v.ownBlock ≠ v2.ownBlock := by
  by_cases hn : v.ownBlock = none
  · exact .inl hn
  · obtain ⟨k, hk⟩ := Option.ne_none_iff_exists'.1 hn
    refine .inr (fun e => ?_)
    have h3 := (h.lt k hk).1
    have h4 := (h2.lt k (e ▸ hk)).2
    omega
set_option maxHeartbeats 800000 in
theorem sum_any (q : Nat) (v : Value) (s0 : S2.S8) (hs0 : s0.ok) (bs : List Nat) (hbs : Lo 256 bs) (hm : bs.length < 1152921504606846000) (size : Nat) (hsz : size ≤ 32) (w : World) (h : KI w q v s0 bs bs.length size) (hT : Tabs w) :
    Calls Tryd.prog 105 #[.pointer (some ⟨q, 0, none⟩)] w fun e w' => ∃ v', e = .returned v' ∧ w'.ownsRow w.heap.size 5 1 v' size (C .u8 ((S2.out2 (now S2.blk2 64 s0 (bs ++ pdg 64 8 bs.length))).take size)) ∧ Below w.heap.size w w' := by
  obtain ⟨n, hn⟩ : ∃ n, bs.length = n := ⟨_, rfl⟩
  go_enter Tryd.func105, Tryd.ntmps105
  go_wp2_with fail
  refine (twin_any q v s0 bs _ size w h).mono ?_
  rintro _ w1 ⟨q1, v1, rfl, hI1, hq1, hv1, hb1⟩
  have hI := h.below hb1
  have hT1 := hT.below hb1
  have hqlt := h.row.lt
  have hca := cell_all hI.row
  have hcb := cell_block hI.row
  clear h
  have hca' : w1.cell? ⟨q, 9, none⟩ = some (.int .u64 (n : Int)) := by rw [← hn]; exact hca
  have hm' : n < 1152921504606846000 := by omega
  have hbsn := Away.mk hn
  have hmA := Away.mk hm
  have hmA' := Away.mk hm'
  have hq11 := hI1.row.lt
  clear hca hn hm hm'
  go_wp2_with fail
  go_region_with (first
    | (go_at_call 100; refine (padding_small n hmA'.out _).mono ?_; rintro _ w2 ⟨pv, pn, rfl, hpo, hb2⟩)
    | (go_at_call 107; refine (write_any q1 v1 s0 hs0 bs size _ (hI1.below (below_of_drew hb2)) hbs pv (pdg 64 8 n) (pdg_lo _ _ _) (SlV.ofOwn hpo) (fun _ => pad_ne hpo hq11) (fun _ => pad_ne2 hpo hI1.own (Nat.le_refl _)) (by have := hmA.out; have := pdg_length 64 8 n (by decide) (by decide); omega) (hT1.below (below_of_drew hb2))).mono ?_; rintro _ w3 ⟨rfl, v3, hI3, hk3, hv3⟩))
  all_goals (
    have hb3 : Below w.heap.size w w3 := Kp.below (hb1.trans ((below_of_drew hb2).mono hb1.size)) hk3 (Nat.le_trans hb1.size (below_of_drew hb2).size) hq1 hv1
    obtain ⟨hq12, hrow3, hown3⟩ := hI3
    obtain ⟨G, hG⟩ : ∃ G, (bs ++ pdg 64 8 n).length = G := ⟨_, rfl⟩
    obtain ⟨Y, hY⟩ : ∃ Y, now S2.blk2 64 s0 (bs ++ pdg 64 8 n) = Y := ⟨_, rfl⟩
    have hYo : Y.ok := by rw [← hY]; exact now_ok hs0 _
    rw [hG, hY] at hrow3
    have HY := Away.mk hY
    clear hG hY hI1 hI hT1 hca' hcb hpo hb2 hk3 hv3 hown3
    go_wp2_with fail
    refine wp_region_noPanic ?_
    refine wp_region_held_drew (S := fun w' => Row w' q1 82 (cells Y v3 G size)) (by kernel_rfl) (hrow3.drew) (fun hHeld => ?_)
    refine wpAnyH_takeL (i := 0) (v := ?v0s3) rfl (by kernel_rfl) (by kernel_rfl) (by kernel_rfl) (fun _ _ _ h => h) (by rfl) ?h0s3 (by assumption) ?_
    case h0s3 => intro w hSw; go_simp <;> with_reducible rfl
    simp only [Act.put, List.setIfInBounds_toArray, List.set_cons_zero, List.set_cons_succ]
    refine wpAnyH_takeL (i := 1) (v := ?v1s3) rfl (by kernel_rfl) (by kernel_rfl) (by kernel_rfl) (fun _ _ _ h => h) (by rfl) ?h1s3 (by assumption) ?_
    case h1s3 => intro w hSw; go_simp <;> with_reducible rfl
    simp only [Act.put, List.setIfInBounds_toArray, List.set_cons_zero, List.set_cons_succ]
    refine wpAnyH_takeL (i := 2) (v := ?v2s3) rfl (by kernel_rfl) (by kernel_rfl) (by kernel_rfl) (fun _ _ _ h => h) (by rfl) ?h2s3 (by assumption) ?_
    case h2s3 => intro w hSw; go_simp <;> with_reducible rfl
    simp only [Act.put, List.setIfInBounds_toArray, List.set_cons_zero, List.set_cons_succ]
    refine wpAnyH_takeL (i := 3) (v := (.func (.func 49) #[] #[])) rfl (by kernel_rfl) (by kernel_rfl) (by kernel_rfl) (fun _ _ _ h => h) (by rfl) ?h3s3 (by assumption) ?_
    case h3s3 => intro w hSw; exact exec_load_cell _ _ rfl rfl (cell_tell hSw) Tryd.underlying80 rfl
    simp only [Act.put, List.setIfInBounds_toArray, List.set_cons_zero, List.set_cons_succ]
    refine wpAnyH_takeL (i := 4) (v := ?v4s3) rfl (by kernel_rfl) (by kernel_rfl) (by kernel_rfl) (fun _ _ _ h => h) (by rfl) ?h4s3 (by assumption) ?_
    case h4s3 => intro w hSw; go_simp <;> with_reducible rfl
    simp only [Act.put, List.setIfInBounds_toArray, List.set_cons_zero, List.set_cons_succ]
    refine wpAnyH_takeL (i := 5) (v := ?v5s3) rfl (by kernel_rfl) (by kernel_rfl) (by kernel_rfl) (fun _ _ _ h => h) (by rfl) ?h5s3 (by assumption) ?_
    case h5s3 => intro w hSw; go_simp <;> with_reducible rfl
    simp only [Act.put, List.setIfInBounds_toArray, List.set_cons_zero, List.set_cons_succ]
    refine wpAnyH_takeL (i := 6) (v := ?v6s3) rfl (by kernel_rfl) (by kernel_rfl) (by kernel_rfl) (fun _ _ _ h => h) (by rfl) ?h6s3 (by assumption) ?_
    case h6s3 => intro w hSw; go_simp <;> with_reducible rfl
    simp only [Act.put, List.setIfInBounds_toArray, List.set_cons_zero, List.set_cons_succ]
    refine wpAnyH_takeL (i := 7) (v := (.agg (C .u32 Y.list).toArray)) rfl (by kernel_rfl) (by kernel_rfl) (by kernel_rfl) (fun _ _ _ h => h) (by rfl) ?h7s3 (by assumption) ?_
    case h7s3 => intro w hSw; exact exec_load_head 65 _ rfl rfl (show Row _ _ _ (C .u32 Y.list ++ _) from hSw) Tryd.underlying65 S2.i8
    simp only [Act.put, List.setIfInBounds_toArray, List.set_cons_zero, List.set_cons_succ]
    refine wpAnyH_takeL (i := 8) (v := ?v8s3) rfl (by kernel_rfl) (by kernel_rfl) (by kernel_rfl) (fun _ _ _ h => h) (by rfl) ?h8s3 (by assumption) ?_
    case h8s3 => intro w hSw; go_simp <;> with_reducible rfl
    simp only [Act.put, List.setIfInBounds_toArray, List.set_cons_zero, List.set_cons_succ]
    refine wpAnyH_takeL (i := 9) (v := ?v9s3) rfl (by kernel_rfl) (by kernel_rfl) (by kernel_rfl) (fun _ _ _ h => h) (by rfl) ?h9s3 (by assumption) ?_
    case h9s3 => intro w hSw; go_simp <;> with_reducible rfl
    simp only [Act.put, List.setIfInBounds_toArray, List.set_cons_zero, List.set_cons_succ]
    refine wpAnyH_takeL (i := 10) (v := ?v10s3) rfl (by kernel_rfl) (by kernel_rfl) (by kernel_rfl) (fun _ _ _ h => h) (by rfl) ?h10s3 (by assumption) ?_
    case h10s3 => intro w hSw; go_simp <;> with_reducible rfl
    simp only [Act.put, List.setIfInBounds_toArray, List.set_cons_zero, List.set_cons_succ]
    refine wpAnyH_takeL (i := 11) (v := (.int .i64 (size : Int))) rfl (by kernel_rfl) (by kernel_rfl) (by kernel_rfl) (fun _ _ _ h => h) (by rfl) ?h11s3 (by assumption) ?_
    case h11s3 => intro w hSw; exact exec_load_cell 3 _ rfl rfl (cell_size hSw) Tryd.underlying3 rfl
    simp only [Act.put, List.setIfInBounds_toArray, List.set_cons_zero, List.set_cons_succ]
    refine allReadyH_oneL (i := 12) (by kernel_rfl) rfl (by rfl) (fun K hK => ?_)
    go_simp
    refine (tells_any Y hYo size hsz _).mono ?_
    rintro _ w4 ⟨v4, rfl, ho4, hb4⟩
    have hR4 := hrow3.drew.belowS hb4
    refine hK.out _ _ (hR4) (fun hHeld => ?_)
    clear hK K
    refine allReadyH_oneL (i := 13) (by kernel_rfl) rfl (by rfl) (fun K hK => ?_)
    refine wp_value v4 (by go_simp <;> with_reducible rfl) ?_
    refine hK.out _ _ (hR4) (fun hHeld => ?_)
    clear hK K
    refine wpAnyH_done (by kernel_rfl) ?_ _
    refine NoPanic.normal ?_
    simp only [Act.put, List.setIfInBounds_toArray, List.set_cons_zero, List.set_cons_succ]
    have hb5 := hb3.trans ((below_of_drew hb4).mono hb3.size)
    have ho5 := own_base ho4 (show w.heap.size ≤ w3.drew.heap.size from hb3.size)
    go_wp2
    go_ret
    exact ⟨_, rfl, by rw [hbsn.out, HY.out]; exact ho5, hb5⟩)
end W2
namespace W3
/-- The struct, made. -/
def zcells : List Value := C .u64 (Z 8) ++ [Value.slice none 0 0, .int .u64 0, .int .i64 0, .int .i64 0, .nilFunc, .nilFunc]
theorem zT (w : World) : (zeroValue 86).run Tryd.prog w = .ok (.agg zcells.toArray) w := by kernel_rfl
theorem iT : (Tryd.prog.info? 86).map (·.size) = some (8 + 6) := by kernel_rfl
theorem cells_one (S : S3.S8) {v : Value} (hv : v.oneCell' = true) (all size : Nat) : (cells S v all size).all (·.oneCell') = true := by
  unfold cells
  rw [List.all_append, C_allL, List.all_cons, hv]
  rfl
theorem KI.below {w w' : World} {q : Nat} {v : Value} {s0 : S3.S8} {bs : List Nat} {all size : Nat} (h : KI w q v s0 bs all size) (hb : Below w.heap.size w w') : KI w' q v s0 bs all size :=
  ⟨h.at2, h.row.belowS hb, own_below h.own hb⟩
theorem KI.kp {w w' : World} {q q2 : Nat} {v : Value} {r : Option Nat} {s0 : S3.S8} {bs : List Nat} {all size : Nat} (h : KI w q v s0 bs all size) (hk : Kp q2 r w w') (h1 : q ≠ q2) (h2 : some q ≠ r) (h3 : v.ownBlock ≠ some q2) (h4 : v.ownBlock = none ∨ v.ownBlock ≠ r) : KI w' q v s0 bs all size :=
  ⟨h.at2, hk.row h.row h1 h2, hk.own h.own h3 h4⟩
theorem twin_any (q : Nat) (v : Value) (s0 : S3.S8) (bs : List Nat) (all size : Nat) (w : World) (h : KI w q v s0 bs all size) :
    Calls Tryd.prog 111 #[.pointer (some ⟨q, 0, none⟩)] w fun e w' => ∃ q' v', e = .returned (.pointer (some ⟨q', 0, none⟩)) ∧ KI w' q' v' s0 bs all size ∧ w.heap.size ≤ q' ∧ (∀ k, v'.ownBlock = some k → w.heap.size ≤ k) ∧ Below w.heap.size w w' := by
  obtain ⟨hq2, hrow, hown⟩ := h
  obtain ⟨Y, hY⟩ : ∃ Y, now S3.blk3 128 s0 bs = Y := ⟨_, rfl⟩
  rw [hY] at hrow
  have HY := Away.mk hY
  clear hY
  have h2w : 2 ≤ w.heap.size := Nat.le_trans hq2 (Nat.le_of_lt hrow.lt)
  have hN := Row.new w 86 zcells
  have hL := Below.more (Below.refl w.heap.size w) (Nat.le_refl _) (.cells zcells.toArray 86)
  have h1 := cells_one Y (own_oneCell hown) all size
  have hi1 : (Tryd.prog.info? 86).map (·.size) = some (cells Y v all size).toArray.size := iT
  have hi2 : (Tryd.prog.info? 86).map (·.size) = some (cells Y v all size).length := iT
  have ho2 : zcells.length = (cells Y v all size).length := rfl
  go_enter Tryd.func111, Tryd.ntmps111
  go_upto_region 2 with (first | refine wpList_load_row rfl 86 _ rfl _ rfl _ _ _ _ hrow Tryd.underlying86 rfl hi1 ?_ | refine wpList_alloc_row rfl 86 rfl _ zT ?_ | (refine wpList_store_R rfl 86 _ _ rfl _ (cells Y v all size) rfl rfl hN hi2 ho2 h1 ?_; intro w2 hR2 hg2 hz2))
  have hL2 := below_grown hL.1 hg2 (Nat.le_refl _) hN.lt
  have hrow2 := hrow.belowS hL2
  have hown2 := own_below hown hL2
  have hcr := cell_rest hrow2
  clear hN hL hg2 hz2 h1 hi1 hi2 ho2 hrow
  go_wp2_with fail
  refine (clone_any v (rst 128 bs) _ (SlV.ofOwn hown2) (by rw [rst_len]; omega)).mono ?_
  rintro _ w3 ⟨v3, rfl, ho3, hb3⟩
  rw [rst_len] at ho3
  obtain ⟨a3, c3, rfl, hs1, hs2⟩ := (SlV.ofOwn ho3).shp (n := bs.length % 128) (rst_len bs)
  have hR3 := hR2.belowS hb3
  have hL3 := hL2.trans (hb3.mono hL2.size)
  have hsz := hL2.size
  have hfr := hR3.frozen 8
  have hcr3 := cell_rest hR3
  have hR4 := set_rest hR3 (.slice a3 (bs.length % 128) c3)
  have ho4 := ho3.kept (grown_set w3 w.heap.size 8 (.slice a3 (bs.length % 128) c3)) (.inr (own_ne ho3 hR3 (by decide)))
  have hvl : ∀ k, (Value.slice a3 (bs.length % 128) c3).ownBlock = some k → w.heap.size ≤ k := fun k hk => Nat.le_trans hsz (ho3.lt k hk).1
  have hL4 := below_setCell hL3 (Nat.le_refl w.heap.size) (i := 8) (.slice a3 (bs.length % 128) c3)
  clear hR2 hb3 hL2 hL3 hrow2 hown2 hcr hown
  go_wp2
  go_ret
  exact ⟨_, _, rfl, ⟨h2w, by rw [HY.out]; exact hR4, own_base ho4 (by omega)⟩, Nat.le_refl _, hvl, hL4⟩
theorem copied_any (q : Nat) (v : Value) (s0 : S3.S8) (bs : List Nat) (all size : Nat) (w : World) (h : KI w q v s0 bs all size) :
    Calls Tryd.prog 108 #[.pointer (some ⟨q, 0, none⟩)] w fun e w' => ∃ q' v', e = .returned (.iface 83 (.pointer (some ⟨q', 0, none⟩))) ∧ KI w' q' v' s0 bs all size ∧ w.heap.size ≤ q' ∧ (∀ k, v'.ownBlock = some k → w.heap.size ≤ k) ∧ Below w.heap.size w w' := by
  go_enter Tryd.func108, Tryd.ntmps108
  go_wp2_with fail
  refine (twin_any q v s0 bs all size w h).mono ?_
  rintro _ w2 ⟨q2, v2, rfl, hI, hq, hv, hb⟩
  clear h
  go_wp2
  go_ret
  exact ⟨_, _, rfl, hI, hq, hv, hb⟩
theorem length_any (q : Nat) (v : Value) (s0 : S3.S8) (bs : List Nat) (all size : Nat) (w : World) (h : KI w q v s0 bs all size) :
    Calls Tryd.prog 109 #[.pointer (some ⟨q, 0, none⟩)] w fun e w' => e = .returned (.int .u64 (all : Int)) ∧ w = w' := by
  have hc := cell_all h.row
  clear h
  go_enter Tryd.func109, Tryd.ntmps109
  go_wp2
  go_ret
  exact ⟨rfl, rfl⟩
theorem pad_ne {w' : World} {base n q : Nat} {v : Value} {xs : List Value} (h : w'.ownsRow base 5 1 v n xs) (hq : q < base) : v.ownBlock ≠ some q := fun e => by
  have := (h.lt q e).1
  omega
theorem pad_ne2 {w w' : World} {base n b2 n2 : Nat} {e2 : TypeId} {v v2 : Value} {xs ys : List Value} (h : w'.ownsRow base 5 1 v n xs) (h2 : w.ownsRow b2 e2 1 v2 n2 ys) (hb : w.heap.size ≤ base) : v.ownBlock = none ∨ v.ownBlock ≠ v2.ownBlock := by
  by_cases hn : v.ownBlock = none
  · exact .inl hn
  · obtain ⟨k, hk⟩ := Option.ne_none_iff_exists'.1 hn
    refine .inr (fun e => ?_)
    have h3 := (h.lt k hk).1
    have h4 := (h2.lt k (e ▸ hk)).2
    omega
set_option maxHeartbeats 800000 in
theorem sum_any (q : Nat) (v : Value) (s0 : S3.S8) (hs0 : s0.ok) (bs : List Nat) (hbs : Lo 256 bs) (hm : bs.length < 1152921504606846000) (size : Nat) (hsz : size ≤ 64) (w : World) (h : KI w q v s0 bs bs.length size) (hT : Tabs w) :
    Calls Tryd.prog 110 #[.pointer (some ⟨q, 0, none⟩)] w fun e w' => ∃ v', e = .returned v' ∧ w'.ownsRow w.heap.size 5 1 v' size (C .u8 ((S3.out3 (now S3.blk3 128 s0 (bs ++ pdg 128 16 bs.length))).take size)) ∧ Below w.heap.size w w' := by
  obtain ⟨n, hn⟩ : ∃ n, bs.length = n := ⟨_, rfl⟩
  go_enter Tryd.func110, Tryd.ntmps110
  go_wp2_with fail
  refine (twin_any q v s0 bs _ size w h).mono ?_
  rintro _ w1 ⟨q1, v1, rfl, hI1, hq1, hv1, hb1⟩
  have hI := h.below hb1
  have hT1 := hT.below hb1
  have hqlt := h.row.lt
  have hca := cell_all hI.row
  have hcb := cell_block hI.row
  clear h
  have hca' : w1.cell? ⟨q, 9, none⟩ = some (.int .u64 (n : Int)) := by rw [← hn]; exact hca
  have hm' : n < 1152921504606846000 := by omega
  have hbsn := Away.mk hn
  have hmA := Away.mk hm
  have hmA' := Away.mk hm'
  have hq11 := hI1.row.lt
  clear hca hn hm hm'
  go_wp2_with fail
  go_region_with (first
    | (go_at_call 100; refine (padding_large n hmA'.out _).mono ?_; rintro _ w2 ⟨pv, pn, rfl, hpo, hb2⟩)
    | (go_at_call 112; refine (write_any q1 v1 s0 hs0 bs size _ (hI1.below (below_of_drew hb2)) hbs pv (pdg 128 16 n) (pdg_lo _ _ _) (SlV.ofOwn hpo) (fun _ => pad_ne hpo hq11) (fun _ => pad_ne2 hpo hI1.own (Nat.le_refl _)) (by have := hmA.out; have := pdg_length 128 16 n (by decide) (by decide); omega) (hT1.below (below_of_drew hb2))).mono ?_; rintro _ w3 ⟨rfl, v3, hI3, hk3, hv3⟩))
  all_goals (
    have hb3 : Below w.heap.size w w3 := Kp.below (hb1.trans ((below_of_drew hb2).mono hb1.size)) hk3 (Nat.le_trans hb1.size (below_of_drew hb2).size) hq1 hv1
    obtain ⟨hq12, hrow3, hown3⟩ := hI3
    obtain ⟨G, hG⟩ : ∃ G, (bs ++ pdg 128 16 n).length = G := ⟨_, rfl⟩
    obtain ⟨Y, hY⟩ : ∃ Y, now S3.blk3 128 s0 (bs ++ pdg 128 16 n) = Y := ⟨_, rfl⟩
    have hYo : Y.ok := by rw [← hY]; exact now_ok hs0 _
    rw [hG, hY] at hrow3
    have HY := Away.mk hY
    clear hG hY hI1 hI hT1 hca' hcb hpo hb2 hk3 hv3 hown3
    go_wp2_with fail
    refine wp_region_noPanic ?_
    refine wp_region_held_drew (S := fun w' => Row w' q1 86 (cells Y v3 G size)) (by kernel_rfl) (hrow3.drew) (fun hHeld => ?_)
    refine wpAnyH_takeL (i := 0) (v := ?v0s3) rfl (by kernel_rfl) (by kernel_rfl) (by kernel_rfl) (fun _ _ _ h => h) (by rfl) ?h0s3 (by assumption) ?_
    case h0s3 => intro w hSw; go_simp <;> with_reducible rfl
    simp only [Act.put, List.setIfInBounds_toArray, List.set_cons_zero, List.set_cons_succ]
    refine wpAnyH_takeL (i := 1) (v := ?v1s3) rfl (by kernel_rfl) (by kernel_rfl) (by kernel_rfl) (fun _ _ _ h => h) (by rfl) ?h1s3 (by assumption) ?_
    case h1s3 => intro w hSw; go_simp <;> with_reducible rfl
    simp only [Act.put, List.setIfInBounds_toArray, List.set_cons_zero, List.set_cons_succ]
    refine wpAnyH_takeL (i := 2) (v := ?v2s3) rfl (by kernel_rfl) (by kernel_rfl) (by kernel_rfl) (fun _ _ _ h => h) (by rfl) ?h2s3 (by assumption) ?_
    case h2s3 => intro w hSw; go_simp <;> with_reducible rfl
    simp only [Act.put, List.setIfInBounds_toArray, List.set_cons_zero, List.set_cons_succ]
    refine wpAnyH_takeL (i := 3) (v := (.func (.func 51) #[] #[])) rfl (by kernel_rfl) (by kernel_rfl) (by kernel_rfl) (fun _ _ _ h => h) (by rfl) ?h3s3 (by assumption) ?_
    case h3s3 => intro w hSw; exact exec_load_cell _ _ rfl rfl (cell_tell hSw) Tryd.underlying84 rfl
    simp only [Act.put, List.setIfInBounds_toArray, List.set_cons_zero, List.set_cons_succ]
    refine wpAnyH_takeL (i := 4) (v := ?v4s3) rfl (by kernel_rfl) (by kernel_rfl) (by kernel_rfl) (fun _ _ _ h => h) (by rfl) ?h4s3 (by assumption) ?_
    case h4s3 => intro w hSw; go_simp <;> with_reducible rfl
    simp only [Act.put, List.setIfInBounds_toArray, List.set_cons_zero, List.set_cons_succ]
    refine wpAnyH_takeL (i := 5) (v := ?v5s3) rfl (by kernel_rfl) (by kernel_rfl) (by kernel_rfl) (fun _ _ _ h => h) (by rfl) ?h5s3 (by assumption) ?_
    case h5s3 => intro w hSw; go_simp <;> with_reducible rfl
    simp only [Act.put, List.setIfInBounds_toArray, List.set_cons_zero, List.set_cons_succ]
    refine wpAnyH_takeL (i := 6) (v := ?v6s3) rfl (by kernel_rfl) (by kernel_rfl) (by kernel_rfl) (fun _ _ _ h => h) (by rfl) ?h6s3 (by assumption) ?_
    case h6s3 => intro w hSw; go_simp <;> with_reducible rfl
    simp only [Act.put, List.setIfInBounds_toArray, List.set_cons_zero, List.set_cons_succ]
    refine wpAnyH_takeL (i := 7) (v := (.agg (C .u64 Y.list).toArray)) rfl (by kernel_rfl) (by kernel_rfl) (by kernel_rfl) (fun _ _ _ h => h) (by rfl) ?h7s3 (by assumption) ?_
    case h7s3 => intro w hSw; exact exec_load_head 69 _ rfl rfl (show Row _ _ _ (C .u64 Y.list ++ _) from hSw) Tryd.underlying69 S3.i8
    simp only [Act.put, List.setIfInBounds_toArray, List.set_cons_zero, List.set_cons_succ]
    refine wpAnyH_takeL (i := 8) (v := ?v8s3) rfl (by kernel_rfl) (by kernel_rfl) (by kernel_rfl) (fun _ _ _ h => h) (by rfl) ?h8s3 (by assumption) ?_
    case h8s3 => intro w hSw; go_simp <;> with_reducible rfl
    simp only [Act.put, List.setIfInBounds_toArray, List.set_cons_zero, List.set_cons_succ]
    refine wpAnyH_takeL (i := 9) (v := ?v9s3) rfl (by kernel_rfl) (by kernel_rfl) (by kernel_rfl) (fun _ _ _ h => h) (by rfl) ?h9s3 (by assumption) ?_
    case h9s3 => intro w hSw; go_simp <;> with_reducible rfl
    simp only [Act.put, List.setIfInBounds_toArray, List.set_cons_zero, List.set_cons_succ]
    refine wpAnyH_takeL (i := 10) (v := ?v10s3) rfl (by kernel_rfl) (by kernel_rfl) (by kernel_rfl) (fun _ _ _ h => h) (by rfl) ?h10s3 (by assumption) ?_
    case h10s3 => intro w hSw; go_simp <;> with_reducible rfl
    simp only [Act.put, List.setIfInBounds_toArray, List.set_cons_zero, List.set_cons_succ]
    refine wpAnyH_takeL (i := 11) (v := (.int .i64 (size : Int))) rfl (by kernel_rfl) (by kernel_rfl) (by kernel_rfl) (fun _ _ _ h => h) (by rfl) ?h11s3 (by assumption) ?_
    case h11s3 => intro w hSw; exact exec_load_cell 3 _ rfl rfl (cell_size hSw) Tryd.underlying3 rfl
    simp only [Act.put, List.setIfInBounds_toArray, List.set_cons_zero, List.set_cons_succ]
    refine allReadyH_oneL (i := 12) (by kernel_rfl) rfl (by rfl) (fun K hK => ?_)
    go_simp
    refine (tells_any Y hYo size hsz _).mono ?_
    rintro _ w4 ⟨v4, rfl, ho4, hb4⟩
    have hR4 := hrow3.drew.belowS hb4
    refine hK.out _ _ (hR4) (fun hHeld => ?_)
    clear hK K
    refine allReadyH_oneL (i := 13) (by kernel_rfl) rfl (by rfl) (fun K hK => ?_)
    refine wp_value v4 (by go_simp <;> with_reducible rfl) ?_
    refine hK.out _ _ (hR4) (fun hHeld => ?_)
    clear hK K
    refine wpAnyH_done (by kernel_rfl) ?_ _
    refine NoPanic.normal ?_
    simp only [Act.put, List.setIfInBounds_toArray, List.set_cons_zero, List.set_cons_succ]
    have hb5 := hb3.trans ((below_of_drew hb4).mono hb3.size)
    have ho5 := own_base ho4 (show w.heap.size ≤ w3.drew.heap.size from hb3.size)
    go_wp2
    go_ret
    exact ⟨_, rfl, by rw [hbsn.out, HY.out]; exact ho5, hb5⟩)
end W3
end Go.Proofs.YtmbaenodibfedaaDoor.S9
