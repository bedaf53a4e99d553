/-
  Contracts of products of four words by four, and of their folding, over this seat's translation. Conditions: each as it says.
-/
import Derived.Test.YtgakpgcjninbgaaDoorFldB
import Derived.Test.YtgakpgcjninbgaaDoorFldV
namespace Go.Proofs.YtgakpgcjninbgaaDoor.F
open Go.RowKit
set_option linter.unusedVariables false
set_option maxRecDepth 10000

theorem row_set {w : World} {g : Nat} {e : TypeId} {q : IntKind} {l : List Nat} (h : Row w g e (C q l)) (i z : Nat) : Row (w.setCell ⟨g, i, none⟩ (.int q (z : Int))) g e (C q (l.set i z)) := by
  rw [C_set]; exact h.set i _

set_option maxHeartbeats 2000000 in
theorem product_any (A B : Nat) (hA : A < 115792089237316195423570985008687907853269984665640564039457584007913129639936) (hB : B < 115792089237316195423570985008687907853269984665640564039457584007913129639936) (w : World) :
    Calls Tryd.prog 45 #[el A, el B] w fun e w' => (∃ p : List Nat, e = .returned (.agg (C .u64 p).toArray) ∧ p.length = 8 ∧ Lo 18446744073709551616 p ∧ val 18446744073709551616 p = A * B) ∧ Below w.heap.size w w' := by
  have hx := wds_lo A
  have hy := wds_lo B
  have lx := wds_length A
  have ly := wds_length B
  have vA := wds_val hA
  have vB := wds_val hB
  have HE : Away (val 18446744073709551616 (wds A) * val 18446744073709551616 (wds B) = A * B) := ⟨by rw [vA, vB]⟩
  unfold el
  clear vA vB hA hB
  generalize wds A = xs at *
  generalize wds B = ys at *
  obtain ⟨w4, h4, r1, r2, r3, r4, hL, hS⟩ := rows4 w 24 24 55 55 (C .u64 xs) (C .u64 ys) (C .u64 (Z 8)) (C .u64 (Z 8))
  have hix : (Tryd.prog.info? 24).map (·.size) = some (C .u64 xs).toArray.size := by rw [C_size, lx]; exact i4
  have hiy : (Tryd.prog.info? 24).map (·.size) = some (C .u64 ys).toArray.size := by rw [C_size, ly]; exact i4
  have hxi := Away.mk (fun w k h => run_index_C (P := Tryd.prog) w (q := .u64) Tryd.underlying24 (by kernel_rfl) i1w xs k h lx)
  have hyi := Away.mk (fun w k h => run_index_C (P := Tryd.prog) w (q := .u64) Tryd.underlying24 (by kernel_rfl) i1w ys k h ly)
  go_enter Tryd.func45, Tryd.ntmps45
  go_upto_region 2 with (refine wpList_alloc_row rfl 55 rfl _ z4' ?_)
  simp only [Act.put, List.setIfInBounds_toArray, List.set_cons_zero, List.set_cons_succ, alloc_size, h4]
  clear h4
  go_wp2_with (refine wpList_load_row rfl 24 _ rfl _ rfl _ _ _ _ r1 Tryd.underlying24 rfl hix ?_)
  go_loopw [12] (fun i wr => ∃ (k : Nat) (l : List Nat), k ≤ 4 ∧ i = .int .i64 k ∧ Pout 18446744073709551616 4 xs ys l k ∧ Row wr (w.heap.size + 1) 24 (C .u64 ys) ∧ Row wr (w.heap.size + 1 + 1) 55 (C .u64 (Z 8)) ∧ Row wr (w.heap.size + 1 + 1 + 1) 55 (C .u64 l) ∧ Below w.heap.size w wr) (fun i _ => 4 - (intOf i).toNat)
  case atStart => exact ⟨0, Z 8, Nat.zero_le _, rfl, Pout.begin (by decide) xs ys, r2, r3, r4, hL⟩
  case round =>
    clear r1 r2 r3 r4 hL
    obtain ⟨k, l, hk, rfl, ho, r2, r3, r4, hL⟩ := hrel
    by_cases hlt : k < 4
    · have hxk := fun w => hxi.out w k hlt
      have bx := hx.getD (by decide) k
      obtain ⟨x, hxe⟩ : ∃ x, xs.getD k 0 = x := ⟨_, rfl⟩
      rw [hxe] at bx
      simp only [hxe] at hxk
      have HX := Away.mk hxe
      clear hxe
      have hki : (k : Int) < 4 := by omega
      have HP := Away.mk (ho.inner (by decide))
      clear ho
      go_wp2_with (refine wpList_load_row rfl 24 _ rfl _ rfl _ _ _ _ r2 Tryd.underlying24 rfl hiy ?_)
      go_loopw [8, 17] (fun cv i wr => ∃ (j c : Nat) (l : List Nat), j ≤ 4 ∧ i = .int .i64 j ∧ cv = .int .u64 (c : Int) ∧ Away (Pin 18446744073709551616 4 xs ys l k j c) ∧ Row wr (w.heap.size + 1) 24 (C .u64 ys) ∧ Row wr (w.heap.size + 1 + 1) 55 (C .u64 (Z 8)) ∧ Row wr (w.heap.size + 1 + 1 + 1) 55 (C .u64 l) ∧ Below w.heap.size w wr) (fun _ i _ => 4 - (intOf i).toNat)
      case atStart => exact ⟨0, 0, l, Nat.zero_le _, rfl, rfl, HP, r2, r3, r4, hL⟩
      case round =>
        clear r2 r3 r4 hL HP l
        obtain ⟨j, c, l, hj, rfl, rfl, HP, r2, r3, r4, hL⟩ := hrel
        have hc := HP.out.small
        have hlen := HP.out.len
        by_cases hlt2 : j < 4
        · have hyj := fun w => hyi.out w j hlt2
          have by' := hy.getD (by decide) j
          have bl := HP.out.lo.getD (by decide) (k + j)
          have HN := Away.mk (HP.out.step (by decide) hx hy hlt2 hlt)
          have c4 := r4.cell (k + j)
          rw [C_get .u64 (by omega)] at c4
          have hf := r4.frozen (k + j)
          rw [HX.out] at HN
          clear HP
          generalize ys.getD j 0 = y at *
          generalize l.getD (k + j) 0 = v at *
          have hji : (j : Int) < 4 := by omega
          obtain ⟨n, hn⟩ : ∃ n, k + j = n := ⟨_, rfl⟩
          rw [hn] at HN c4 hf
          have en : (k : Int) + (j : Int) = (n : Int) := by omega
          have wn : IntKind.i64.wrap (n : Int) = (n : Int) := by rw [IntWalk.i64_in _ ⟨by omega, by omega⟩]
          have bn : (n : Int) < 8 := by omega
          clear hn
          go_wp2_with fail
          with_reducible refine (wordProduct_any x y v c bx by' bl hc _).mono ?_
          rintro _ w' ⟨rfl, rfl⟩
          generalize (x * y + v + c) % 18446744073709551616 = z at *
          generalize (x * y + v + c) / 18446744073709551616 = d at *
          go_wp2
          have q2 := r2.other (i := n) (.int .u64 (z : Int)) (show w.heap.size + 1 ≠ w.heap.size + 1 + 1 + 1 by omega)
          have q3 := r3.other (i := n) (.int .u64 (z : Int)) (show w.heap.size + 1 + 1 ≠ w.heap.size + 1 + 1 + 1 by omega)
          have q4 := row_set r4 n z
          have q5 := hL.setCell (p := ⟨w.heap.size + 1 + 1 + 1, n, none⟩) (by simp; omega) (.int .u64 (z : Int))
          clear r2 r3 r4 hL c4 hf
          go_roundw
          case rel => exact ⟨j + 1, d, _, by omega, by go_num, rfl, HN, q2, q3, q4, q5⟩
          case measure => simp [intOf]; omega
        · obtain rfl : j = 4 := by omega
          have HN := Away.mk (HP.out.out ly hlt)
          have hf := r4.frozen (k + 4)
          have c4 := r4.cell (k + 4)
          rw [C_get .u64 (by omega)] at c4
          generalize l.getD (k + 4) 0 = v at *
          obtain ⟨n, hn⟩ : ∃ n, k + 4 = n := ⟨_, rfl⟩
          rw [hn] at HN c4 hf
          have en : (k : Int) + 4 = (n : Int) := by omega
          have wn : IntKind.i64.wrap (n : Int) = (n : Int) := by rw [IntWalk.i64_in _ ⟨by omega, by omega⟩]
          have bn : (n : Int) < 8 := by omega
          have q2 := r2.other (i := n) (.int .u64 (c : Int)) (show w.heap.size + 1 ≠ w.heap.size + 1 + 1 + 1 by omega)
          have q3 := r3.other (i := n) (.int .u64 (c : Int)) (show w.heap.size + 1 + 1 ≠ w.heap.size + 1 + 1 + 1 by omega)
          have q4 := row_set r4 n c
          have q5 := hL.setCell (p := ⟨w.heap.size + 1 + 1 + 1, n, none⟩) (by simp; omega) (.int .u64 (c : Int))
          clear hn HP r2 r3 r4 hL
          go_wp2
          go_roundw
          case rel => exact ⟨k + 1, _, by omega, by go_num, HN.out, q2, q3, q4, q5⟩
          case measure => simp [intOf]; omega
    · obtain rfl : k = 4 := by omega
      have hi := ho.len
      rw [← C_length .u64 l] at hi
      have hi8 : (Tryd.prog.info? 55).map (·.size) = some (C .u64 l).length := by rw [hi]; exact i8
      have HV := Away.mk ho
      clear ho
      go_wp2_with (first | refine wpList_load_row rfl 55 _ rfl _ rfl _ _ _ _ r4 Tryd.underlying55 rfl hi8 ?_ | (refine wpList_store_R rfl 55 _ _ rfl _ _ rfl rfl r3 hi8 (by rw [hi]; rfl) (C_allL _ _) ?_; intro w5 hR5 hg5 hz5))
      exact result_row Tryd.results45 rfl hR5 Tryd.underlying55 rfl hi8 rfl ⟨⟨l, rfl, HV.out.len, HV.out.lo, by rw [HV.out.all lx, HE.out]⟩, below_grown hL hg5 (by omega) r3.lt⟩

theorem built4 (x : Int) : Tryd.prog.built 24 [(0, .int .u64 x)] = some #[.int .u64 x, .int .u64 0, .int .u64 0, .int .u64 0] := by kernel_rfl

set_option maxHeartbeats 1000000 in
theorem folded_any (p : List Nat) (lp : p.length = 8) (hp : Lo 18446744073709551616 p) (w : World) :
    Calls Tryd.prog 44 #[.agg (C .u64 p).toArray] w fun e w' => (∃ M : Nat, e = .returned (el M) ∧ M < 115792089237316195423570985008687907853269984665640564039457584007913129639936 ∧ M % P = val 18446744073709551616 p % P) ∧ Below w.heap.size w w' := by
  obtain ⟨w4, h4, r1, r3, r4, hL, hS⟩ := rows3 w 55 24 24 (C .u64 p) (C .u64 (Z 4)) (C .u64 (Z 4))
  go_enter Tryd.func44, Tryd.ntmps44
  go_wp2_with (refine wpList_alloc_row rfl 24 rfl _ z4 ?_)
  clear h4
  go_loopw [4, 6] (fun b i wr => ∃ k : Nat, k ≤ 4 ∧ i = .int .i64 k ∧ b = .int .u64 ((fld 18446744073709551616 4 p k).2 : Nat) ∧ Row wr w.heap.size 55 (C .u64 p) ∧ Row wr (w.heap.size + 1) 24 (C .u64 (Z 4)) ∧ Row wr (w.heap.size + 1 + 1) 24 (C .u64 ((fld 18446744073709551616 4 p k).1 ++ Z (4 - k))) ∧ Below w.heap.size w wr) (fun _ i _ => 4 - (intOf i).toNat)
  case atStart => exact ⟨0, Nat.zero_le _, rfl, rfl, r1, r3, r4, hL⟩
  case round =>
    clear r1 r3 r4 hL
    obtain ⟨k, hk, rfl, rfl, r1, r3, r4, hL⟩ := hrel
    by_cases hlt : k < 4
    · have c1 := r1.cell k
      rw [C_get .u64 (by omega)] at c1
      have c2 := r1.cell (k + 4)
      rw [C_get .u64 (by omega)] at c2
      have c4 := r4.cell k
      have hlen := fld_length 18446744073709551616 4 p k
      rw [C_get .u64 (by simp [hlen, Z_length]; omega)] at c4
      have hf := r4.frozen k
      have b1 := hp.getD (by decide) k
      have b2 := hp.getD (by decide) (k + 4)
      have b3 := fld_le (n := 4) (by decide) hp k
      have HN : Away (fld 18446744073709551616 4 p (k + 1) = ((fld 18446744073709551616 4 p k).1 ++ [(p.getD (k + 4) 0 * 38 + p.getD k 0 + (fld 18446744073709551616 4 p k).2) % 18446744073709551616], (p.getD (k + 4) 0 * 38 + p.getD k 0 + (fld 18446744073709551616 4 p k).2) / 18446744073709551616)) := ⟨rfl⟩
      have hki : (k : Int) < 4 := by omega
      generalize p.getD k 0 = x at *
      generalize p.getD (k + 4) 0 = y at *
      generalize fld 18446744073709551616 4 p k = ms at *
      obtain ⟨m, b⟩ := ms
      simp only at *
      have hw := wordProduct_any y 38 x b b2 (by decide) b1 (by omega)
      generalize (y * 38 + x + b) % 18446744073709551616 = z at *
      generalize (y * 38 + x + b) / 18446744073709551616 = d at *
      generalize (m ++ Z (4 - k)).getD k 0 = u at *
      obtain ⟨n, hn⟩ : ∃ n, k + 4 = n := ⟨_, rfl⟩
      rw [hn] at c2
      have en : (k : Int) + 4 = (n : Int) := by omega
      have wn : IntKind.i64.wrap (n : Int) = (n : Int) := by rw [IntWalk.i64_in _ ⟨by omega, by omega⟩]
      have bn : (n : Int) < 8 := by omega
      have bk : (k : Int) < 8 := by omega
      clear hn b1 b2 b3
      go_wp2
      go_region_held3 (fun w' => w'.cell? ⟨w.heap.size, k, none⟩ = some (.int .u64 (x : Int)) ∧ w'.cell? ⟨w.heap.size, n, none⟩ = some (.int .u64 (y : Int)))
        (first | exact ⟨c1, c2⟩ | exact ⟨cell_other c1 (by omega), cell_other c2 (by omega)⟩)
        (first | (go_at_call 61; refine (hw _).mono ?_; rintro e w' ⟨rfl, rfl⟩))
      have q1 := (r1.drew.other (i := k) (.int .u64 (z : Int)) (show w.heap.size ≠ w.heap.size + 1 + 1 by omega))
      have q3 := (r3.drew.other (i := k) (.int .u64 (z : Int)) (show w.heap.size + 1 ≠ w.heap.size + 1 + 1 by omega))
      have q4 := row_fill r4.drew hlen (by omega) z
      rw [show 4 - k - 1 = 4 - (k + 1) by omega] at q4
      have q5 := (below_drawn hL).setCell (p := ⟨w.heap.size + 1 + 1, k, none⟩) (by simp; omega) (.int .u64 (z : Int))
      clear r1 r3 r4 hL c1 c2 c4 hw hf
      go_wp2
      go_roundw
      case rel => exact ⟨k + 1, by omega, by go_num, by rw [HN.out], q1, q3, by rw [HN.out]; exact q4, q5⟩
      case measure => simp [intOf]; omega
    · have HK : Away (k = 4) := ⟨by omega⟩
      have dk : decide ((k : Int) < 4) = false := decide_eq_false (by omega)
      obtain ⟨c0, hc0, hc0e⟩ : ∃ c0, c0 = (fld 18446744073709551616 4 p k).2 ∧ (fld 18446744073709551616 4 p 4).2 = c0 := ⟨_, rfl, by rw [HK.out]⟩
      rw [← hc0]
      rw [HK.out] at r4
      clear hc0
      obtain ⟨g1, g2, g3⟩ := fld_mod (by decide) hp lp W_pow
      have h4 := fld_length 18446744073709551616 4 p 4
      have h5 := fld_lo (B := 18446744073709551616) (by decide) 4 p 4
      generalize fld 18446744073709551616 4 p 4 = ms at *
      obtain ⟨m, b⟩ := ms
      simp only at *
      subst hc0e
      rw [show m ++ Z (4 - 4) = m by simp [Z], wds_of h4 h5 rfl] at r4
      generalize val 18446744073709551616 m = M at *
      have HG : Away ((M + 115792089237316195423570985008687907853269984665640564039457584007913129639936 * b) % P = val 18446744073709551616 p % P) := ⟨g1⟩
      clear g1 h4 h5 m r1 hlt hk
      go_wp2
      go_loopw [4, 24] (fun b i wr => ∃ k M c : Nat, k ≤ 2 ∧ i = .int .i64 k ∧ b = .int .u64 (c : Nat) ∧ M < 115792089237316195423570985008687907853269984665640564039457584007913129639936 ∧ c ≤ 38 ∧ Away ((M + 115792089237316195423570985008687907853269984665640564039457584007913129639936 * c) % P = val 18446744073709551616 p % P ∧ (k = 1 → c ≤ 1 ∧ (c = 1 → M < 1444)) ∧ (k = 2 → c = 0)) ∧ Row wr (w.heap.size + 1) 24 (C .u64 (Z 4)) ∧ Row wr (w.heap.size + 1 + 1) 24 (C .u64 (wds M)) ∧ Below w.heap.size w wr) (fun _ i _ => 2 - (intOf i).toNat)
      case atStart => exact ⟨0, M, b, Nat.zero_le _, rfl, rfl, g2, g3, ⟨HG.out, fun h => by omega, fun h => by omega⟩, r3, r4, hL⟩
      case round =>
        clear r3 r4 hL g2 g3 HG
        obtain ⟨k, M, c, hk, rfl, rfl, hM, hc, HP, r3, r4, hL⟩ := hrel
        by_cases hlt : k < 2
        · have hki : (k : Int) < 2 := by omega
          have hi : (C .u64 (wds M)).length = 4 := by rw [C_length, wds_length]
          have hi4 : (Tryd.prog.info? 24).map (·.size) = some (C .u64 (wds M)).length := by rw [hi]; exact i4
          have ew : IntKind.u64.wrap ((c : Int) * 38) = ((38 * c : Nat) : Int) := by rw [IntKind.wrap_u64]; omega
          have hb : Value.agg #[.int .u64 ((38 * c : Nat) : Int), .int .u64 0, .int .u64 0, .int .u64 0] = el (38 * c) := by
            rw [el, wds_small (by omega)]; rfl
          have hpl := plus_any M (38 * c) hM (by omega)
          have HQ := Away.mk (fold_next hM hc hlt HP.out)
          generalize 38 * c = q at *
          go_wp2_with (refine wpList_load_row rfl 24 _ rfl _ rfl _ _ _ _ r4 Tryd.underlying24 rfl hi4 ?_)
          refine (hpl _).mono ?_
          rintro _ w' ⟨rfl, hb2⟩
          have hl2 := Nat.mod_lt (M + q) (show 0 < 115792089237316195423570985008687907853269984665640564039457584007913129639936 by decide)
          generalize (M + q) % 115792089237316195423570985008687907853269984665640564039457584007913129639936 = M2 at *
          generalize (M + q) / 115792089237316195423570985008687907853269984665640564039457584007913129639936 = c2 at *
          replace r3 := r3.belowS hb2
          replace r4 := r4.belowS hb2
          replace hL := hL.trans (hb2.mono hL.size)
          have hi2 : (C .u64 (wds M2)).length = 4 := by rw [C_length, wds_length]
          have hi42 : (Tryd.prog.info? 24).map (·.size) = some (C .u64 (wds M2)).length := by rw [hi2]; exact i4
          clear hpl hb2 hb ew HP hM hc
          go_wp2_with (refine wpList_store_R rfl 24 _ _ rfl _ (C .u64 (wds M2)) rfl rfl r4 hi42 (by rw [hi, hi2]) (C_allL _ _) ?_; intro w5 hR5 hg5 hz5)
          have r3' := r3.grown hg5 (by simp)
          have hL' := below_grown hL hg5 (by omega) r4.lt
          clear r3 r4 hL
          go_roundw
          case rel => exact ⟨k + 1, M2, c2, by omega, by go_num, rfl, hl2, HQ.out.1, ⟨HQ.out.2⟩, r3', hR5, hL'⟩
          case measure => simp [intOf]; omega
        · obtain rfl : k = 2 := by omega
          have hi : (C .u64 (wds M)).length = 4 := by rw [C_length, wds_length]
          have hi4 : (Tryd.prog.info? 24).map (·.size) = some (C .u64 (wds M)).length := by rw [hi]; exact i4
          go_wp2_with (first | refine wpList_load_row rfl 24 _ rfl _ rfl _ _ _ _ r4 Tryd.underlying24 rfl hi4 ?_ | (refine wpList_store_R rfl 24 _ _ rfl _ _ rfl rfl r3 hi4 (by rw [hi]; rfl) (C_allL _ _) ?_; intro w5 hR5 hg5 hz5))
          refine result_row Tryd.results44 rfl hR5 Tryd.underlying24 rfl hi4 rfl ⟨⟨M, rfl, hM, ?_⟩, below_grown hL hg5 (by omega) r3.lt⟩
          obtain ⟨e1, _, e2⟩ := HP.out
          rw [e2 (by trivial)] at e1
          exact e1
end Go.Proofs.YtgakpgcjninbgaaDoor.F
