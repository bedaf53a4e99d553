/-
  Contracts of the document's Mul, over this seat's translation. Conditions: each as it says.
-/
import Derived.Test.YtgakpgcjninbgaaDoorFldP
import Derived.Test.YtgakpgcjninbgaaDoorFldJ
namespace Go.Proofs.YtgakpgcjninbgaaDoor.F
open Go.RowKit
set_option linter.unusedVariables false
set_option maxRecDepth 10000

theorem H2.drewN {g : Nat} {w0 w : World} {us vs xs : List Value} (h : H2 g w0 w us vs xs) (n : Nat) : H2 g w0 (w.drewN n) us vs xs := ⟨h.r1, h.r2, h.r3, below_drewN h.bel n, h.lt⟩
theorem H2.cell {g : Nat} {w0 w : World} {us vs xs : List Value} (h : H2 g w0 w us vs xs) {k i : Nat} (u : Value) (hk : g + 1 + 1 < k) : H2 g w0 (w.setCell ⟨k, i, none⟩ u) us vs xs := h.grown (grown_set w k i u) hk
theorem new_rowT {g : Nat} {w0 w : World} {us vs xs : List Value} (h : H2 g w0 w us vs xs) (t : TypeId) (zs : List Value) : ∃ g3 : Nat, w.heap.size = g3 ∧ Row (w.alloc (.cells zs.toArray t)) g3 t zs ∧ g + 1 + 1 < g3 :=
  ⟨_, rfl, Row.new w _ _, h.lt⟩
theorem over_ok {M c N : Nat} (hM : M < 115792089237316195423570985008687907853269984665640564039457584007913129639936) (hc : c ≤ 38) (h : (M + 115792089237316195423570985008687907853269984665640564039457584007913129639936 * c) % P = N % P) :
    ((M + 38 * c) / 115792089237316195423570985008687907853269984665640564039457584007913129639936 = 1 → ((M + 38 * c) % 115792089237316195423570985008687907853269984665640564039457584007913129639936 + 38) % 115792089237316195423570985008687907853269984665640564039457584007913129639936 % P = N % P) ∧ (¬ (M + 38 * c) / 115792089237316195423570985008687907853269984665640564039457584007913129639936 = 1 → (M + 38 * c) % 115792089237316195423570985008687907853269984665640564039457584007913129639936 % P = N % P) := by
  obtain ⟨h1, h2, h3⟩ := fold_on hM hc h
  rw [fold_mod] at h1
  refine ⟨fun k => ?_, fun k => ?_⟩
  · have h4 := h3 k
    rw [k] at h1
    rw [Nat.mod_eq_of_lt (show (M + 38 * c) % 115792089237316195423570985008687907853269984665640564039457584007913129639936 + 38 < 115792089237316195423570985008687907853269984665640564039457584007913129639936 by omega)]
    exact h1
  · have h5 : (M + 38 * c) / 115792089237316195423570985008687907853269984665640564039457584007913129639936 = 0 := by omega
    rw [h5] at h1
    exact h1
theorem refmore_el (A B : Nat) (hA : A < 115792089237316195423570985008687907853269984665640564039457584007913129639936) (hB : B < 115792089237316195423570985008687907853269984665640564039457584007913129639936) (w : World) : Calls Tryd.prog 42 #[.agg (C .u64 (wds A)).toArray, .agg (C .u64 (wds B)).toArray] w fun e w' => e = .returned (.tuple #[.agg (C .u64 (wds ((A + B) % 115792089237316195423570985008687907853269984665640564039457584007913129639936))).toArray, .bool (decide ((A + B) / 115792089237316195423570985008687907853269984665640564039457584007913129639936 = 1))]) ∧ Below w.heap.size w w' := refmore_any11 A B hA hB w
theorem refreduce_el (A : Nat) (hA : A < 115792089237316195423570985008687907853269984665640564039457584007913129639936) (w : World) : Calls Tryd.prog 12 #[.agg (C .u64 (wds A)).toArray] w fun e w' => e = .returned (.agg (C .u64 (wds (A % P))).toArray) ∧ Below w.heap.size w w' := refreduce_any A hA w

set_option maxHeartbeats 8000000 in
theorem frefmul_any (A B : Nat) (hA : A < 115792089237316195423570985008687907853269984665640564039457584007913129639936) (hB : B < 115792089237316195423570985008687907853269984665640564039457584007913129639936) (w : World) : Calls Tryd.prog 19 #[el A, el B] w fun e w' => e = .returned (el (A * B % P)) ∧ Below w.heap.size w w' := by
  obtain ⟨w4, h4, h⟩ := H2.begin w (C .u64 (wds A)) (C .u64 (wds B)) (C .u64 (Z 4))
  unfold el
  go_enter Tryd.func19, Tryd.ntmps19
  go_upto_region 1 with (refine wpList_alloc_row rfl 24 rfl _ z4 ?_)
  try simp only [Act.put, List.setIfInBounds_toArray, List.set_cons_zero, List.set_cons_succ, alloc_size, h4]
  clear h4
  go_wp2_with (first | refine wpList_load_row rfl 24 _ rfl _ rfl _ _ _ _ h.r1 Tryd.underlying24 rfl (ie4 _) ?_ | refine wpList_load_row rfl 24 _ rfl _ rfl _ _ _ _ h.r2 Tryd.underlying24 rfl (ie4 _) ?_)
  refine (refproduct_any A B hA hB _).mono ?_
  rintro _ wn ⟨⟨p, rfl, lp, hp, hv⟩, hb⟩
  replace h := h.below hb
  clear hb
  have HV := Away.mk hv
  clear hv
  have hip : (C .u64 p).length = 16 := by rw [C_length, lp]
  have hi16 : (Tryd.prog.info? 57).map (·.size) = some (C .u64 p).length := by rw [hip]; exact i16
  have hz16 : (C .u64 (Z 16)).length = (C .u64 p).length := by rw [hip]; rfl
  obtain ⟨gd, hgd, qd, ld⟩ := new_rowT h 57 (C .u64 (Z 16))
  replace h := h.alloc (.cells (C .u64 (Z 16)).toArray 57)
  go_upto_region 2 with (first | refine wpList_alloc_row rfl 57 rfl _ z16 ?_ | (refine wpList_store_R rfl 57 _ _ rfl _ (C .u64 p) (by rw [← hgd]; rfl) rfl qd hi16 hz16 (C_allL _ _) ?_; intro w5 q1 hg hz))
  replace h := h.grown hg ld
  try rw [hgd]
  clear qd hg hgd hz
  obtain ⟨ge, hge, qe, le⟩ := new_rowT h 55 (C .u64 (Z 8))
  have n1 := q1.lt
  rw [hge] at n1
  replace q1 := q1.alloc (.cells (C .u64 (Z 8)).toArray 55)
  replace h := h.alloc (.cells (C .u64 (Z 8)).toArray 55)
  go_upto_region 3 with (first | refine wpList_alloc_row rfl 55 rfl _ z4' ?_ | refine wpList_build_Z rfl 55 rfl _ b8 ?_ | (refine wpList_store_R rfl 55 _ _ rfl _ (C .u64 (Z 8)) (by rw [← hge]; rfl) rfl qe i8 rfl (C_allL _ _) ?_; intro w6 q2 hg hz))
  replace h := h.grown hg le
  replace q1 := q1.grown hg (by simp; omega)
  try rw [hge]
  clear qe hg hge hz
  go_wp2
  go_loopw [7, 8] (fun b i wr => ∃ k : Nat, k ≤ 8 ∧ i = .int .i64 k ∧ b = .int .u64 ((fld 4294967296 8 p k).2 : Nat) ∧ Row wr gd 57 (C .u64 p) ∧ Row wr ge 55 (C .u64 ((fld 4294967296 8 p k).1 ++ Z (8 - k))) ∧ H2 w.heap.size w wr (C .u64 (wds A)) (C .u64 (wds B)) (C .u64 (Z 4))) (fun _ i _ => 8 - (intOf i).toNat)
  case atStart => exact ⟨0, Nat.zero_le _, rfl, rfl, q1, q2, h⟩
  case round =>
    clear q1 q2 h
    obtain ⟨k, hk, rfl, rfl, q1, q2, h⟩ := hrel
    by_cases hlt : k < 8
    · have c1 := q1.cell k
      rw [C_get .u64 (by omega)] at c1
      have c2 := q1.cell (k + 8)
      rw [C_get .u64 (by omega)] at c2
      have c4 := q2.cell k
      have hlen := fld_length 4294967296 8 p k
      rw [C_get .u64 (by simp [hlen, Z_length]; omega)] at c4
      have hf := q2.frozen k
      have b1 := hp.getD (by decide) k
      have b2 := hp.getD (by decide) (k + 8)
      have b3 := fld_le (n := 8) (by decide) hp k
      have HN : Away (fld 4294967296 8 p (k + 1) = ((fld 4294967296 8 p k).1 ++ [(p.getD (k + 8) 0 * 38 + p.getD k 0 + (fld 4294967296 8 p k).2) % 4294967296], (p.getD (k + 8) 0 * 38 + p.getD k 0 + (fld 4294967296 8 p k).2) / 4294967296)) := ⟨rfl⟩
      have hki : (k : Int) < 8 := by omega
      have hk16 : (k : Int) < 16 := by omega
      generalize p.getD k 0 = x at *
      generalize p.getD (k + 8) 0 = y at *
      generalize fld 4294967296 8 p k = ms at *
      obtain ⟨m, b⟩ := ms
      simp only at *
      generalize (m ++ Z (8 - k)).getD k 0 = u at *
      obtain ⟨n, hn⟩ : ∃ n, k + 8 = n := ⟨_, rfl⟩
      rw [hn] at c2
      have en : (8 : Int) + (k : Int) = (n : Int) := by omega
      have wn' : IntKind.i64.wrap (n : Int) = (n : Int) := by rw [IntWalk.i64_in _ ⟨by omega, by omega⟩]
      have wn2 : IntKind.i64.wrap ((8 : Int) + (k : Int)) = (n : Int) := by rw [en, wn']
      have bn : (n : Int) < 16 := by omega
      obtain ⟨s1, hs1⟩ : ∃ s1, b + x = s1 := ⟨_, rfl⟩
      obtain ⟨s2, hs2⟩ : ∃ s2, y * 38 = s2 := ⟨_, rfl⟩
      obtain ⟨t, ht⟩ : ∃ t, y * 38 + x + b = t := ⟨_, rfl⟩
      have e1 : IntKind.u64.wrap ((b : Int) + (x : Int)) = (s1 : Int) := by rw [IntKind.wrap_u64]; omega
      have e2 : IntKind.u64.wrap (38 * (y : Int)) = (s2 : Int) := by rw [IntKind.wrap_u64]; omega
      have e3 : IntKind.u64.wrap ((s1 : Int) + (s2 : Int)) = (t : Int) := by rw [IntKind.wrap_u64]; omega
      rw [ht] at HN
      have htl : t < 18446744073709551616 := by omega
      obtain ⟨z, hz⟩ : ∃ z, t % 4294967296 = z := ⟨_, rfl⟩
      obtain ⟨d, hd⟩ : ∃ d, t / 4294967296 = d := ⟨_, rfl⟩
      rw [hz, hd] at HN
      have e4 : bits .and .u64 (t : Int) 4294967295 = (z : Int) := by
        have := u64_and_nat t 4294967295 htl (by decide)
        rw [show ((4294967295 : Nat) : Int) = 4294967295 from rfl] at this
        rw [this, show (4294967295 : Nat) = 2 ^ 32 - 1 from rfl, Nat.and_two_pow_sub_one_eq_mod, ← hz]
      have e5 : (t : Int) / 4294967296 = (d : Int) := by omega
      clear hn b1 b2 b3 hs1 hs2 ht htl hz hd
      go_wp2
      go_quiet (fail)
      obtain ⟨wx, hwn, q1, q2, h, c4, hf⟩ : ∃ wx : World, wr.drewN nq = wx ∧ Row wx gd 57 (C .u64 p) ∧ Row wx ge 55 (C .u64 (m ++ Z (8 - k))) ∧ H2 w.heap.size w wx (C .u64 (wds A)) (C .u64 (wds B)) (C .u64 (Z 4)) ∧ wx.cell? ⟨ge, k, none⟩ = some (.int .u64 (u : Int)) ∧ wx.frozen? ⟨ge, k, none⟩ = false := ⟨_, rfl, q1, q2, h.drewN nq, c4, hf⟩
      rw [hwn]
      clear hwn
      have m1 := q1.other (i := k) (.int .u64 (z : Int)) (show gd ≠ ge by omega)
      have m2 := row_fill q2 hlen (by omega) z
      rw [show 8 - k - 1 = 8 - (k + 1) by omega] at m2
      have mh := h.cell (k := ge) (i := k) (.int .u64 (z : Int)) le
      clear q1 q2 h
      go_wp2
      go_roundw
      case rel => exact ⟨k + 1, by omega, by go_num, by rw [HN.out], m1, by rw [HN.out]; exact m2, mh⟩
      case measure => simp [intOf]; omega
    · have HK : Away (k = 8) := ⟨by omega⟩
      have dk : decide ((k : Int) < 8) = false := decide_eq_false (by omega)
      obtain ⟨c0, hc0, hc0e⟩ : ∃ c0, c0 = (fld 4294967296 8 p k).2 ∧ (fld 4294967296 8 p 8).2 = c0 := ⟨_, rfl, by rw [HK.out]⟩
      rw [← hc0]
      rw [HK.out] at q2
      clear hc0
      obtain ⟨g1, g2, g3⟩ := fld_mod (by decide) hp lp B32_pow
      have l4 := fld_length 4294967296 8 p 8
      have l5 := fld_lo (B := 4294967296) (by decide) 8 p 8
      generalize fld 4294967296 8 p 8 = ms at *
      obtain ⟨m, b⟩ := ms
      simp only at *
      subst hc0e
      rw [show m ++ Z (8 - 8) = m by simp [Z]] at q2
      obtain ⟨hwe, hwl⟩ := two_halves l5 l4
      obtain ⟨k1, k2⟩ := over_ok g2 g3 g1
      rw [HV.out] at k1 k2
      have HW : Away (hw m = wds (val 4294967296 m)) := ⟨hwe⟩
      have lw : (hw m).length = 4 := rfl
      have H1 := Away.mk k1
      have H2' := Away.mk k2
      clear g1 hwe k1 k2 hlt hk hwl
      generalize val 4294967296 m = M at *
      obtain ⟨gw, hgw, qw, lw'⟩ := new_rowT h 24 (C .u64 (Z 4))
      have n2 := q2.lt
      rw [hgw] at n2
      replace q2 := q2.alloc (.cells (C .u64 (Z 4)).toArray 24)
      replace h := h.alloc (.cells (C .u64 (Z 4)).toArray 24)
      clear q1
      go_upto_region 11 with (first | refine wpList_alloc_row rfl 24 rfl _ z4 ?_ | refine wpList_build_Z rfl 24 rfl _ b4 ?_ | (refine wpList_store_R rfl 24 _ _ rfl _ (C .u64 (Z 4)) (by rw [← hgw]; rfl) rfl qw i4 rfl (C_allL _ _) ?_; intro w7 q3 hg hz))
      replace h := h.grown hg lw'
      replace q2 := q2.grown hg (by simp; omega)
      try rw [hgw]
      clear qw hg hgw hz
      rw [← upto_zero (hw m) 4] at q3
      go_wp2
      go_loopw [10] (fun i wr => ∃ k : Nat, k ≤ 4 ∧ i = .int .i64 k ∧ Row wr ge 55 (C .u64 m) ∧ Row wr gw 24 (C .u64 (upto (hw m) 4 k)) ∧ H2 w.heap.size w wr (C .u64 (wds A)) (C .u64 (wds B)) (C .u64 (Z 4))) (fun i _ => 4 - (intOf i).toNat)
      case atStart => exact ⟨0, Nat.zero_le _, rfl, q2, q3, h⟩
      case round =>
        clear q2 q3 h
        obtain ⟨j, hj, rfl, q2, q3, h⟩ := hrel
        by_cases hlt : j < 4
        · have c1 := q2.cell (2 * j)
          rw [C_get .u64 (by omega)] at c1
          have c2 := q2.cell (2 * j + 1)
          rw [C_get .u64 (by omega)] at c2
          have b1 := l5.getD (by decide) (2 * j)
          have b2 := l5.getD (by decide) (2 * j + 1)
          have hwj := hw_getD m hlt
          have c3 := q3.cell j
          rw [C_get .u64 (by rw [upto_length lw (by omega)]; omega)] at c3
          have hf := q3.frozen j
          generalize m.getD (2 * j) 0 = x at *
          generalize m.getD (2 * j + 1) 0 = y at *
          generalize (upto (hw m) 4 j).getD j 0 = u at *
          obtain ⟨n, hn⟩ : ∃ n, 2 * j = n := ⟨_, rfl⟩
          obtain ⟨n1, hn1⟩ : ∃ n1, 2 * j + 1 = n1 := ⟨_, rfl⟩
          rw [hn] at c1
          rw [hn1] at c2
          have en : IntKind.i64.wrap (2 * (j : Int)) = (n : Int) := by rw [IntWalk.i64_in _ ⟨by omega, by omega⟩]; omega
          have en' : (2 : Int) * (j : Int) = (n : Int) := by omega
          have wn' : IntKind.i64.wrap (n : Int) = (n : Int) := by rw [IntWalk.i64_in _ ⟨by omega, by omega⟩]
          have en1 : (n : Int) + 1 = (n1 : Int) := by omega
          have wn1 : IntKind.i64.wrap (n1 : Int) = (n1 : Int) := by rw [IntWalk.i64_in _ ⟨by omega, by omega⟩]
          have wn2 : IntKind.i64.wrap ((n : Int) + 1) = (n1 : Int) := by rw [en1, wn1]
          have bn : (n : Int) < 8 := by omega
          have bn1 : (n1 : Int) < 8 := by omega
          have bj : (j : Int) < 4 := by omega
          obtain ⟨v, hv⟩ : ∃ v, 4294967296 * y = v := ⟨_, rfl⟩
          obtain ⟨z, hz⟩ : ∃ z, x + v = z := ⟨_, rfl⟩
          have ev : IntKind.u64.wrap ((y : Int) * 4294967296) = (v : Int) := by rw [IntKind.wrap_u64]; omega
          have ez : IntKind.u64.wrap ((x : Int) + (v : Int)) = (z : Int) := by rw [IntKind.wrap_u64]; omega
          rw [hv, hz] at hwj
          have m3 := upto_row (z := (z : Int)) q3.drew lw hlt (by rw [hwj])
          have m2 := q2.drew.other (i := j) (.int .u64 (z : Int)) (show ge ≠ gw by omega)
          have mh := h.drew.cell (k := gw) (i := j) (.int .u64 (z : Int)) lw'
          clear hn hn1 hv hz b1 b2 hwj q2 q3 h
          go_wp2
          go_region_held3 (fun w' => w'.cell? ⟨ge, n, none⟩ = some (.int .u64 (x : Int)) ∧ w'.cell? ⟨ge, n1, none⟩ = some (.int .u64 (y : Int)))
            (first | exact ⟨c1, c2⟩ | exact ⟨cell_other c1 (by omega), cell_other c2 (by omega)⟩)
            (fail)
          clear c1 c2 c3 hf
          go_wp2
          go_roundw
          case rel => exact ⟨j + 1, by omega, by go_num, m2, m3, mh⟩
          case measure => simp [intOf]; omega
        · have HJ : Away (j = 4) := ⟨by omega⟩
          have dj : decide ((j : Int) < 4) = false := decide_eq_false (by omega)
          rw [HJ.out, upto_all lw, HW.out] at q3
          clear hlt hj q2
          have ew : IntKind.u64.wrap (38 * (b : Int)) = ((38 * b : Nat) : Int) := by rw [IntKind.wrap_u64]; omega
          have hbd : Value.agg #[.int .u64 ((38 * b : Nat) : Int), .int .u64 0, .int .u64 0, .int .u64 0] = .agg (C .u64 (wds (38 * b))).toArray := by rw [wds_small (by omega)]; rfl
          have hmo := refmore_el M (38 * b) g2 (by omega)
          have hl2 := Nat.mod_lt (M + 38 * b) (show 0 < 115792089237316195423570985008687907853269984665640564039457584007913129639936 by decide)
          obtain ⟨ov, hov⟩ : ∃ ov, decide ((M + 38 * b) / 115792089237316195423570985008687907853269984665640564039457584007913129639936 = 1) = ov := ⟨_, rfl⟩
          have H3 : Away ((ov = true → ((M + 38 * b) % 115792089237316195423570985008687907853269984665640564039457584007913129639936 + 38) % 115792089237316195423570985008687907853269984665640564039457584007913129639936 % P = A * B % P) ∧ (ov = false → (M + 38 * b) % 115792089237316195423570985008687907853269984665640564039457584007913129639936 % P = A * B % P)) :=
            ⟨fun e => H1.out (of_decide_eq_true (hov.trans e)), fun e => H2'.out (of_decide_eq_false (hov.trans e))⟩
          rw [hov] at hmo
          clear H1 H2' hov
          generalize (M + 38 * b) % 115792089237316195423570985008687907853269984665640564039457584007913129639936 = M2 at *
          generalize 38 * b = bb at *
          go_wp2_with (refine wpList_load_row rfl 24 _ rfl _ rfl _ _ _ _ q3 Tryd.underlying24 rfl (ie4 M) ?_)
          refine (hmo _).mono ?_
          rintro _ wn2 ⟨rfl, hb⟩
          replace h := h.below hb
          clear hb hmo q3 hbd ew
          obtain ⟨gs, hgs, qs, ls⟩ := new_rowT h 24 (C .u64 (Z 4))
          replace h := h.alloc (.cells (C .u64 (Z 4)).toArray 24)
          go_upto_region 16 with (first | refine wpList_alloc_row rfl 24 rfl _ z4 ?_ | (refine wpList_store_R rfl 24 _ _ rfl _ (C .u64 (wds M2)) (by rw [← hgs]; rfl) rfl qs (ie4 _) (ze4 _) (C_allL _ _) ?_; intro w8 q4 hg hz))
          replace h := h.grown hg ls
          try rw [hgs]
          clear qs hg hgs hz
          cases ov
          · have HR := H3.out.2 rfl
            clear H3
            obtain ⟨R, hR⟩ : ∃ R, A * B % P = R := ⟨_, rfl⟩
            rw [hR] at HR
            have HRA := Away.mk hR
            have HRM := Away.mk HR
            clear hR HR
            go_wp2_with (refine wpList_load_row rfl 24 _ rfl _ rfl _ _ _ _ q4 Tryd.underlying24 rfl (ie4 M2) ?_)
            refine (refreduce_el M2 hl2 _).mono ?_
            rintro _ wn3 ⟨rfl, hb⟩
            rw [HRM.out]
            replace h := h.below hb
            clear hb
            go_wp2_with (refine wpList_store_R rfl 24 _ _ rfl _ (C .u64 (wds R)) rfl rfl h.r3 (ie4 _) (ze4 _) (C_allL _ _) ?_; intro w9 q9 hg9 hz9)
            exact result_row Tryd.results19 rfl q9 Tryd.underlying24 rfl (ie4 _) rfl ⟨by rw [HRA.out], below_grown h.bel hg9 (by omega) h.r3.lt⟩
          · have HR := H3.out.1 rfl
            clear H3
            obtain ⟨R, hR⟩ : ∃ R, A * B % P = R := ⟨_, rfl⟩
            rw [hR] at HR
            have HRA := Away.mk hR
            have hb38 : Value.agg #[.int .u64 38, .int .u64 0, .int .u64 0, .int .u64 0] = .agg (C .u64 (wds 38)).toArray := by rw [wds_small (by decide)]; rfl
            have hm2 := refmore_el M2 38 hl2 (by decide)
            have hl3 := Nat.mod_lt (M2 + 38) (show 0 < 115792089237316195423570985008687907853269984665640564039457584007913129639936 by decide)
            generalize decide ((M2 + 38) / 115792089237316195423570985008687907853269984665640564039457584007913129639936 = 1) = ov2 at *
            generalize (M2 + 38) % 115792089237316195423570985008687907853269984665640564039457584007913129639936 = M3 at *
            have HRM := Away.mk HR
            clear hR HR
            go_wp2_with (refine wpList_load_row rfl 24 _ rfl _ rfl _ _ _ _ q4 Tryd.underlying24 rfl (ie4 M2) ?_)
            refine (hm2 _).mono ?_
            rintro _ wn3 ⟨rfl, hb⟩
            replace h := h.below hb
            replace q4 := q4.belowS hb
            clear hb hm2
            go_wp2_with (first | (refine wpList_store_R rfl 24 _ _ rfl _ (C .u64 (wds M3)) rfl rfl q4 (ie4 _) (ee4 _ _) (C_allL _ _) ?_; intro w9 q5 hg9 hz9; have h5 := h.grown hg9 ls) | refine wpList_load_row rfl 24 _ rfl _ rfl _ _ _ _ q5 Tryd.underlying24 rfl (ie4 M3) ?_)
            refine (refreduce_el M3 hl3 _).mono ?_
            rintro _ wn4 ⟨rfl, hb⟩
            rw [HRM.out]
            replace h5 := h5.below hb
            clear hb
            go_wp2_with (refine wpList_store_R rfl 24 _ _ rfl _ (C .u64 (wds R)) rfl rfl h5.r3 (ie4 _) (ze4 _) (C_allL _ _) ?_; intro w10 q10 hg10 hz10)
            exact result_row Tryd.results19 rfl q10 Tryd.underlying24 rfl (ie4 _) rfl ⟨by rw [HRA.out], below_grown h5.bel hg10 (by omega) h5.r3.lt⟩
end Go.Proofs.YtgakpgcjninbgaaDoor.F
