/-
  Contracts of the document's Add, less, Sub, times, Shl, over this seat's translation. Conditions: at most 100000 words.
-/
import Derived.Test.YtniclmghkbdkbaaDoorR4C
namespace Go.Proofs.YtniclmghkbdkbaaDoor
open Go.RowKit
set_option linter.unusedVariables false

set_option maxHeartbeats 1000000 in
theorem refadd_any (va vb : Value) (xs ys : List Nat) (w : World) (ha : SlV w va (C .u32 xs)) (hb : SlV w vb (C .u32 ys)) (hx : Lo W32 xs) (hy : Lo W32 ys) (hxm : xs.length ≤ 100000) (hym : ys.length ≤ 100000) :
    Calls Tryd.prog 33 #[va, vb] w fun e w' => ∃ v', e = .returned v' ∧ RA w' v' (val W32 xs + val W32 ys) ∧ Below w.heap.size w w' := by
  have HA := Away.mk ha; have HB := Away.mk hb
  clear ha hb
  go_enter Tryd.func33, Tryd.ntmps33
  go_wp2_with fail
  refine (digits_any _ xs w HA.out hx hxm).mono ?_
  rintro _ w1 ⟨v1, es, rfl, hI1, hl1, hs1, hb1⟩
  go_wp2_with fail
  refine (digits_any _ ys w1 (HB.out.below hb1) hy hym).mono ?_
  rintro _ w2 ⟨v2, fs, rfl, hI2, hl2, hs2, hb2⟩
  have hs1 := hs1.below hb2
  have hb02 : Below w.heap.size w w2 := hb1.trans (hb2.mono hb1.size)
  obtain ⟨n1, hn1⟩ : ∃ n, es.length = n := ⟨_, rfl⟩
  obtain ⟨n2, hn2⟩ : ∃ n, fs.length = n := ⟨_, rfl⟩
  obtain ⟨a1, c1, rfl, q1, r1⟩ := hs1.shapeC hn1
  obtain ⟨a2, c2, rfl, q2, r2⟩ := hs2.shapeC hn2
  obtain ⟨m, hmx, h1m, h2m, hmm⟩ : ∃ m : Nat, max (n1 : Int) (n2 : Int) = (m : Int) ∧ n1 ≤ m ∧ n2 ≤ m ∧ m ≤ 200000 := ⟨max n1 n2, by omega, by omega, by omega, by omega⟩
  have HS1 := Away.mk hs1; have HS2 := Away.mk hs2; have HI1 := Away.mk hI1; have HI2 := Away.mk hI2; have HB2 := Away.mk hb02
  clear hs1 hs2 hI1 hI2 hb1 hb2 hb02 HA HB
  go_wp2
  go_loopw [7, 8, 9] (fun ov cv iv wr => ∃ (k c : Nat) (out : List Nat), k ≤ m + 1 ∧ iv = .int .i64 (k : Int) ∧ cv = .int .u64 (c : Int) ∧ c ≤ 1 ∧ out.length = k ∧ Lo W16 out ∧ val W16 out + W16 ^ k * c = val W16 (es.take k) + val W16 (fs.take k) ∧ wr.ownsRow w2.heap.size 30 1 ov k (C .u64 out) ∧ Below w2.heap.size w2 wr) (fun _ _ i _ => m + 1 - (intOf i).toNat)
  case atStart => exact ⟨0, 0, [], Nat.zero_le _, rfl, rfl, by omega, rfl, Lo.nil _, by simp [val], own_empty w2 _ _ (Nat.le_refl _), (Below.refl _ _).alloc (Nat.le_refl _) _⟩
  case round =>
    obtain ⟨k, c, out, hk, rfl, rfl, hc, hol, holo, hval, hown, hb⟩ := hrel
    by_cases hlt : k < m + 1
    · have hd1 := digit_any _ es k wr (HS1.out.below hb) (by omega) (by omega)
      have hd2 := digit_any _ fs k wr (HS2.out.below hb) (by omega) (by omega)
      have hx1 : es.getD k 0 < 65536 := HI1.out.2.1.getD (by decide) _
      have hx2 : fs.getD k 0 < 65536 := HI2.out.2.1.getD (by decide) _
      have hv1 := val_take_succ (B := W16) es k
      have hv2 := val_take_succ (B := W16) fs k
      generalize es.getD k 0 = x at *
      generalize fs.getD k 0 = y at *
      obtain ⟨s, hs⟩ : ∃ s, c + x + y = s := ⟨_, rfl⟩
      obtain ⟨p, hp⟩ : ∃ p, s % 65536 = p := ⟨_, rfl⟩
      have e1 : ((c : Int) + x + y) % 65536 = (p : Int) := by omega
      have e2 : (c : Int) + x + y = (s : Int) := by omega
      have hpb : p < 65536 := by omega
      have hsb : s < 131072 := by omega
      have HD1 := Away.mk hd1; have HD2 := Away.mk hd2; have HV1 := Away.mk hv1; have HV2 := Away.mk hv2; have HV := Away.mk hval; have HO := Away.mk hown; have HB := Away.mk hb; have HL := Away.mk holo; have HSS := Away.mk hs; have HP := Away.mk hp
      clear hd1 hd2 hv1 hv2 hval hown hb holo hs hp e1
      have e3 : (s : Int) % 65536 = (p : Int) := by have := HP.out; omega
      go_wp2_with fail
      refine HD1.out.mono ?_
      rintro _ w' ⟨rfl, rfl⟩
      go_wp2_with fail
      refine HD2.out.mono ?_
      rintro _ w' ⟨rfl, rfl⟩
      go_wp2_with (at_builtin; refine wpList_append_sl rfl (.tmp 34) (.tmp 37) 46 rfl w2.heap.size 30 (.int .u64 0) 8 Tryd.underlying46 Tryd.info30 rfl _ k _ rfl (HO.out.alloc _) _ [.int .u64 (p : Int)] rfl (SlV_one _ _ _) (by simp [Value.oneCell']) (by simp; unfold maxLen; omega) (by simp; omega) (by have := HB.out.size; simp; omega) ?_)
      intro v2' w3 hown2 hg2
      have hb2 : Below w2.heap.size w2 w3 := (HB.out.alloc HB.out.size _).grown hg2 (by have := HB.out.size; simp; omega) (fun j e => (HO.out.lt j e).1)
      have HO2 := Away.mk hown2; have HB3 := Away.mk hb2
      clear hown2 hg2 hb2
      go_wp2
      go_roundw
      case rel =>
        refine ⟨k + 1, s / 65536, out ++ [p], by omega, by simp, by simp, by omega, by simp [hol], HL.out.append (by intro u hu; show u < 65536; simp at hu; omega), ?_, by rw [C_append]; exact HO2.out, HB3.out⟩
        rw [val_append, val_one, hol, HV1.out, HV2.out, Nat.pow_succ, ← HP.out]
        have h1 := HV.out
        have h2 := HSS.out
        have h3 := Nat.mod_add_div s 65536
        generalize val W16 out = A at *
        generalize val W16 (es.take k) = T1 at *
        generalize val W16 (fs.take k) = T2 at *
        generalize W16 ^ k = P at *
        simp only [W16]
        generalize s % 65536 = u at *
        generalize s / 65536 = d at *
        subst h2
        grind
      case measure => simp [intOf]; omega
    · obtain rfl : k = m + 1 := by omega
      rw [List.take_of_length_le (by omega), List.take_of_length_le (by omega), HI1.out.1, HI2.out.1] at hval
      have hv := no_carry hval (sum_fits (by decide) (HI1.out.val_lt (by decide) (by omega)) (HI2.out.val_lt (by decide) (by omega)))
      have HT := Away.mk (whole_any _ out wr (SlV.ofOwn hown) holo (by omega))
      rw [hv] at HT
      have HBr := Away.mk (HB2.out.trans (hb.mono HB2.out.size))
      clear hval hown hb holo hv
      go_wp2_with fail
      refine HT.out.mono ?_
      rintro _ w6 ⟨v', rfl, hans, hb6⟩
      go_wp2
      go_ret
      exact ⟨_, rfl, hans, HBr.out.trans (hb6.mono HBr.out.size)⟩

set_option maxHeartbeats 1000000 in
theorem times_any (v : Value) (ys : List Nat) (q : Nat) (w : World) (hs : SlV w v (C .u64 ys)) (hl : Lo W16 ys) (hm : ys.length ≤ 300000) (hq : q < 65536) :
    Calls Tryd.prog 39 #[v, .int .u64 (q : Int)] w fun e w' => ∃ v' es, e = .returned v' ∧ Is W16 (val W16 ys * q) es ∧ es.length ≤ ys.length + 1 ∧ SlV w' v' (C .u64 es) ∧ Below w.heap.size w w' := by
  obtain ⟨n, hn⟩ : ∃ n, ys.length = n := ⟨_, rfl⟩
  have HS := Away.mk hs
  obtain ⟨a, cap, rfl, q1, r1⟩ := hs.shapeC hn
  rw [hn] at hm ⊢
  clear hs
  go_enter Tryd.func39, Tryd.ntmps39
  go_wp2
  go_loopw [5, 6, 7] (fun ov cv iv wr => ∃ (k c : Nat) (out : List Nat), k ≤ n + 1 ∧ iv = .int .i64 (k : Int) ∧ cv = .int .u64 (c : Int) ∧ c < 65536 ∧ out.length = k ∧ Lo W16 out ∧ val W16 out + W16 ^ k * c = val W16 (ys.take k) * q ∧ wr.ownsRow w.heap.size 30 1 ov k (C .u64 out) ∧ Below w.heap.size w wr) (fun _ _ i _ => n + 1 - (intOf i).toNat)
  case atStart => exact ⟨0, 0, [], Nat.zero_le _, rfl, rfl, by omega, rfl, Lo.nil _, by simp [val], own_empty w _ _ (Nat.le_refl _), (Below.refl _ _).alloc (Nat.le_refl _) _⟩
  case round =>
    obtain ⟨k, c, out, hk, rfl, rfl, hc, hol, holo, hval, hown, hb⟩ := hrel
    by_cases hlt : k < n + 1
    · have hd1 := digit_any _ ys k wr (HS.out.below hb) (by omega) (by omega)
      have hx1 : ys.getD k 0 < 65536 := hl.getD (by decide) _
      have hv1 := val_take_succ (B := W16) ys k
      generalize ys.getD k 0 = x at *
      have hxq : x * q ≤ 65535 * 65535 := Nat.mul_le_mul (by omega) (by omega)
      obtain ⟨z, hz⟩ : ∃ z, x * q = z := ⟨_, rfl⟩
      have hzi : (x : Int) * (q : Int) = (z : Int) := by rw [← hz]; simp
      rw [hz] at hxq
      obtain ⟨s, hs⟩ : ∃ s, c + z = s := ⟨_, rfl⟩
      obtain ⟨p, hp⟩ : ∃ p, s % 65536 = p := ⟨_, rfl⟩
      have e2 : (c : Int) + z = (s : Int) := by omega
      have hpb : p < 65536 := by omega
      have hsb : s < 4294967296 := by omega
      have e3 : (s : Int) % 65536 = (p : Int) := by omega
      have HD1 := Away.mk hd1; have HV1 := Away.mk hv1; have HV := Away.mk hval; have HO := Away.mk hown; have HB := Away.mk hb; have HL := Away.mk holo; have HSS := Away.mk hs; have HP := Away.mk hp; have HZ := Away.mk hz
      clear hd1 hv1 hval hown hb holo hs hp hz
      go_wp2_with fail
      refine HD1.out.mono ?_
      rintro _ w' ⟨rfl, rfl⟩
      go_wp2_with (at_builtin; refine wpList_append_sl rfl (.tmp 23) (.tmp 26) 46 rfl w.heap.size 30 (.int .u64 0) 8 Tryd.underlying46 Tryd.info30 rfl _ k _ rfl (HO.out.alloc _) _ [.int .u64 (p : Int)] rfl (SlV_one _ _ _) (by simp [Value.oneCell']) (by simp; unfold maxLen; omega) (by simp; omega) (by have := HB.out.size; simp; omega) ?_)
      intro v2' w3 hown2 hg2
      have hb2 : Below w.heap.size w w3 := (HB.out.alloc HB.out.size _).grown hg2 (by have := HB.out.size; simp; omega) (fun j e => (HO.out.lt j e).1)
      have HO2 := Away.mk hown2; have HB3 := Away.mk hb2
      clear hown2 hg2 hb2
      go_wp2
      go_roundw
      case rel =>
        refine ⟨k + 1, s / 65536, out ++ [p], by omega, by simp, by simp, by omega, by simp [hol], HL.out.append (by intro u hu; show u < 65536; simp at hu; omega), ?_, by rw [C_append]; exact HO2.out, HB3.out⟩
        rw [val_append, val_one, hol, HV1.out, Nat.pow_succ, ← HP.out]
        have h1 := HV.out
        have h2 := HSS.out
        have h3 := Nat.mod_add_div s 65536
        have h4 := HZ.out
        generalize val W16 out = A at *
        generalize val W16 (ys.take k) = T1 at *
        generalize W16 ^ k = P at *
        simp only [W16]
        generalize s % 65536 = u at *
        generalize s / 65536 = d at *
        subst h4
        subst h2
        grind
      case measure => simp [intOf]; omega
    · obtain rfl : k = n + 1 := by omega
      rw [List.take_of_length_le (by omega)] at hval
      have hyl := val_lt (B := W16) (by decide) hl
      rw [hn] at hyl
      have hfit : val W16 ys * q < W16 ^ (n + 1) := by
        rw [Nat.pow_succ]
        exact Nat.mul_lt_mul'' hyl hq
      have hv := no_carry hval hfit
      have HT := Away.mk (trim_any _ out wr (SlV.ofOwn hown) holo (by omega))
      rw [hv] at HT
      have HBr := Away.mk hb
      clear hval hown hb holo hv hyl hfit
      go_wp2_with fail
      refine HT.out.mono ?_
      rintro _ w6 ⟨v', es, rfl, hI, hle, hs6, rfl⟩
      go_wp2
      go_ret
      have hle' : es.length ≤ n + 1 := by omega
      first | exact ⟨_, es, rfl, hI, hle', hs6, HBr.out⟩ | exact ⟨_, rfl, es, hI, hle', hs6, HBr.out⟩

set_option maxHeartbeats 1000000 in
theorem refshl_any (va : Value) (xs : List Nat) (n : Nat) (w : World) (ha : SlV w va (C .u32 xs)) (hx : Lo W32 xs) (hxm : xs.length ≤ 100000) (hn : n ≤ 16384) :
    Calls Tryd.prog 31 #[va, .int .i64 (n : Int)] w fun e w' => ∃ v', e = .returned (.tuple #[v', .int .i64 0]) ∧ RA w' v' (val W32 xs * 2 ^ n) ∧ Below w.heap.size w w' := by
  obtain ⟨i0, hi, hz0, hz1, hz2⟩ := info_parts Tryd.info30
  obtain ⟨q, hq⟩ : ∃ q, n / 16 = q := ⟨_, rfl⟩
  obtain ⟨r, hr⟩ : ∃ r, n % 16 = r := ⟨_, rfl⟩
  have hnq : n = 16 * q + r := by omega
  have hr16 : r < 16 := by omega
  have e1 : (n : Int) / 16 = (q : Int) := by omega
  have e2 : (n : Int) % 16 = (r : Int) := by omega
  have hqm : q ≤ 1024 := by omega
  have HN := Away.mk hnq
  have HA := Away.mk ha
  clear hq hr hnq ha
  have h2r : 2 ^ r < 65536 := Nat.lt_of_lt_of_le (Nat.pow_lt_pow_right (by decide) hr16) (by decide)
  obtain ⟨t, ht⟩ : ∃ t, 2 ^ r = t := ⟨_, rfl⟩
  have eti : (2 : Int) ^ r = (t : Int) := by rw [← ht]; simp
  rw [ht] at h2r
  have HT2 := Away.mk ht
  clear ht
  go_enter Tryd.func31, Tryd.ntmps31
  go_wp2_with (at_make; refine wpList_make_full _ rfl _ _ 46 rfl w.heap.size 30 i0 _ 1 Tryd.underlying46 hi hz0 hz1 _ _ _ _ q rfl rfl (by omega) (by omega) (by rw [hz2]; omega) (by unfold maxLen; omega) (Nat.le_refl _) ?_)
  intro w3 hown hg3
  have hown := own_made hown
  rw [← C_zeros] at hown
  have hB3 : Below w.heap.size w w3 := (Below.refl _ w).grown hg3 (Nat.le_refl _) (by simp)
  have HO := Away.mk hown; have HB3 := Away.mk hB3
  clear hown hg3 hB3
  go_wp2_with fail
  refine (digits_any _ xs w3 (HA.out.below HB3.out) hx hxm).mono ?_
  rintro _ w4 ⟨v1, es, rfl, hI1, hl1, hs1, hb4⟩
  have HI1 := Away.mk hI1; have HS1 := Away.mk hs1; have HB4 := Away.mk hb4; have HO4 := Away.mk (own_below HO.out hb4)
  clear hI1 hs1 hb4
  go_wp2_with fail
  refine (times_any _ es t w4 HS1.out HI1.out.2.1 (by omega) h2r).mono ?_
  rintro _ w5 ⟨v2, fs, rfl, hI2, hl2, hs2, hb5⟩
  have hO5 := own_below HO4.out hb5
  have HO5 := Away.mk hO5; have HS2 := Away.mk hs2; have HI2 := Away.mk hI2
  have hB5 : Below w.heap.size w w5 := (HB3.out.trans (HB4.out.mono HB3.out.size)).trans (hb5.mono (Nat.le_trans HB3.out.size HB4.out.size))
  have HB5 := Away.mk hB5
  clear hO5 hs2 hI2 hb5 hB5
  go_wp2_with (at_builtin; refine wpList_append_sl rfl (.tmp 16) (.tmp 23) 46 rfl w.heap.size 30 (.int .u64 0) 8 Tryd.underlying46 Tryd.info30 rfl _ q _ rfl HO5.out _ (C .u64 fs) rfl HS2.out (C_one _ _) (by rw [C_length]; unfold maxLen; omega) (by rw [C_length]; omega) HB5.out.size ?_)
  intro v3 w6 hown6 hg6
  have hb6 : Below w.heap.size w w6 := HB5.out.grown hg6 HB5.out.size (fun j e => (HO5.out.lt j e).1)
  rw [← C_append] at hown6
  have hval : val W16 (List.replicate q 0 ++ fs) = val W32 xs * 2 ^ n := by
    rw [val_append, val_zeros, HI2.out.1, HI1.out.1, List.length_replicate, Nat.zero_add, ← HT2.out, HN.out, Nat.pow_add, Nat.pow_mul]
    simp only [W16, Nat.reducePow]
    generalize 65536 ^ q = P
    generalize 2 ^ r = R
    generalize val W32 xs = X
    grind
  have HW := Away.mk (whole_any _ _ w6 (SlV.ofOwn hown6) ((Lo.zeros (by decide) _).append HI2.out.2.1) (by simp; omega))
  rw [hval] at HW
  have HB6 := Away.mk hb6
  clear hown6 hg6 hb6 hval
  go_wp2_with fail
  refine HW.out.mono ?_
  rintro _ w7 ⟨v', rfl, hans, hb7⟩
  go_wp2
  go_ret2
  exact ⟨_, rfl, hans, HB6.out.trans (hb7.mono HB6.out.size)⟩
theorem refshl_bad (va : Value) (n : Int) (w : World) (hn : n < 0 ∨ 16384 < n) :
    Calls Tryd.prog 31 #[va, .int .i64 n] w fun e w' => e = .returned (.tuple #[.slice none 0 0, .int .i64 1]) ∧ w = w' := by
  rcases hn with hn | hn
  · have d1 : decide (n < 0) = true := decide_eq_true hn
    go_enter Tryd.func31, Tryd.ntmps31
    go_wp2
    go_ret2
    exact ⟨rfl, rfl⟩
  · have d1 : decide (n < 0) = false := decide_eq_false (by omega)
    have d2 : decide (16384 < n) = true := decide_eq_true hn
    go_enter Tryd.func31, Tryd.ntmps31
    go_wp2
    go_ret2
    exact ⟨rfl, rfl⟩
end Go.Proofs.YtniclmghkbdkbaaDoor
