/-
  Contracts of the document's compare, Cmp, Bits, Bit, fill, Bytes, Fill, Read, over this seat's translation. Conditions: at most 100000 words.
-/
import Derived.Test.YtbefchlgonlfiaaRefB
namespace Go.Proofs.Ytbefchlgonlfiaa
open Go.RowKit
set_option linter.unusedVariables false

set_option maxHeartbeats 1000000 in
theorem compare_any (va vb : Value) (xs ys : List Nat) (w : World) (ha : SlV w va (C .u64 xs)) (hb : SlV w vb (C .u64 ys)) (hx : Lo W16 xs) (hy : Lo W16 ys) (hxm : xs.length ≤ 1000000) (hym : ys.length ≤ 1000000) :
    Calls Try.prog 49 #[va, vb] w fun e w' => e = .returned (.int .i64 (cmpI (val W16 xs) (val W16 ys))) ∧ w = w' := by
  obtain ⟨n1, hn1⟩ : ∃ n, xs.length = n := ⟨_, rfl⟩
  obtain ⟨n2, hn2⟩ : ∃ n, ys.length = n := ⟨_, rfl⟩
  have HA := Away.mk (fun i hi => digit_any va xs i w ha hxm hi); have HB := Away.mk (fun i hi => digit_any vb ys i w hb hym hi)
  obtain ⟨a1, c1, rfl, q1, r1⟩ := ha.shapeC hn1
  obtain ⟨a2, c2, rfl, q2, r2⟩ := hb.shapeC hn2
  obtain ⟨m, hmx, h1m, h2m, hmm⟩ : ∃ m : Nat, max (n1 : Int) (n2 : Int) = (m : Int) ∧ n1 ≤ m ∧ n2 ≤ m ∧ m ≤ 1000000 := ⟨max n1 n2, by omega, by omega, by omega, by omega⟩
  clear ha hb
  go_enter Try.func49, Try.ntmps49
  go_wp2
  go_loop [5] (fun iv => ∃ k : Nat, k ≤ m ∧ iv = .int .i64 ((k : Int) - 1) ∧ ∀ j, k ≤ j → xs.getD j 0 = ys.getD j 0) (fun i => (intOf i + 1).toNat)
  case atStart => exact ⟨m, Nat.le_refl _, rfl, fun j hj => by rw [getD_past (by omega), getD_past (by omega)]⟩
  case round =>
    obtain ⟨k, hk, rfl, hz⟩ := hrel
    rcases Nat.eq_zero_or_pos k with h0 | h0
    · subst h0
      have heq : cmpI (val W16 xs) (val W16 ys) = 0 := by rw [val_ext (fun j => hz j (Nat.zero_le _)), cmpI_eq]
      have HC := Away.mk heq
      clear hz heq
      go_wp2
      go_ret
      exact ⟨ret_int HC.out.symm, rfl⟩
    · obtain ⟨i, rfl⟩ : ∃ i, k = i + 1 := ⟨k - 1, by omega⟩
      have e1 : ((i + 1 : Nat) : Int) - 1 = (i : Int) := by omega
      rw [e1]
      have hlt := fun h => val_cmp (B := W16) (by decide) hx i (fun j hj => hz j (by omega)) h
      have hgt := fun h => val_cmp (B := W16) (by decide) hy i (fun j hj => (hz j (by omega)).symm) h
      have HLT := Away.mk hlt; have HGT := Away.mk hgt; have HZ := Away.mk hz
      have HA1 := Away.mk (HA.out i (by omega)); have HB1 := Away.mk (HB.out i (by omega))
      obtain ⟨x, hxx⟩ : ∃ x, xs.getD i 0 = x := ⟨_, rfl⟩
      obtain ⟨y, hyy⟩ : ∃ y, ys.getD i 0 = y := ⟨_, rfl⟩
      rw [hxx] at HLT HGT HA1
      rw [hyy] at HLT HGT HB1
      have HXX := Away.mk hxx; have HYY := Away.mk hyy
      clear hlt hgt hz e1 h0 hxx hyy
      have im : i ≤ 1000000 := by omega
      rcases Nat.lt_trichotomy x y with h | h | h
      · have hc := cmpI_lt (HLT.out h)
        have HC := Away.mk hc
        have d1 : decide (x < y) = true := decide_eq_true h
        clear hc
        go_wp2_with fail
        refine HA1.out.mono ?_
        rintro _ w1 ⟨rfl, rfl⟩
        go_wp2_with fail
        refine HB1.out.mono ?_
        rintro _ w1 ⟨rfl, rfl⟩
        go_wp2
        go_ret
        exact ⟨ret_int HC.out.symm, rfl⟩
      · subst h
        have d1 : decide (x < x) = false := decide_eq_false (by omega)
        go_wp2_with fail
        refine HA1.out.mono ?_
        rintro _ w1 ⟨rfl, rfl⟩
        go_wp2_with fail
        refine HB1.out.mono ?_
        rintro _ w1 ⟨rfl, rfl⟩
        go_wp2_with fail
        refine HA1.out.mono ?_
        rintro _ w1 ⟨rfl, rfl⟩
        go_wp2_with fail
        refine HB1.out.mono ?_
        rintro _ w1 ⟨rfl, rfl⟩
        go_wp2
        go_round
        case rel =>
          refine ⟨i, by omega, rfl, fun j hj => ?_⟩
          by_cases h : j = i
          · rw [h, HXX.out, HYY.out]
          · exact HZ.out j (by omega)
        case measure => simp [intOf]
      · have hc := cmpI_gt (HGT.out h)
        have HC := Away.mk hc
        have d1 : decide (x < y) = false := decide_eq_false (by omega)
        have d2 : decide (y < x) = true := decide_eq_true h
        clear hc
        go_wp2_with fail
        refine HA1.out.mono ?_
        rintro _ w1 ⟨rfl, rfl⟩
        go_wp2_with fail
        refine HB1.out.mono ?_
        rintro _ w1 ⟨rfl, rfl⟩
        go_wp2_with fail
        refine HA1.out.mono ?_
        rintro _ w1 ⟨rfl, rfl⟩
        go_wp2_with fail
        refine HB1.out.mono ?_
        rintro _ w1 ⟨rfl, rfl⟩
        go_wp2
        go_ret
        exact ⟨ret_int HC.out.symm, rfl⟩
theorem refcmp_any (va vb : Value) (xs ys : List Nat) (w : World) (ha : SlV w va (C .u32 xs)) (hb : SlV w vb (C .u32 ys)) (hx : Lo W32 xs) (hy : Lo W32 ys) (hxm : xs.length ≤ 100000) (hym : ys.length ≤ 100000) :
    Calls Try.prog 25 #[va, vb] w fun e w' => e = .returned (.int .i64 (cmpI (val W32 xs) (val W32 ys))) ∧ Below w.heap.size w w' := by
  have HA := Away.mk ha; have HB := Away.mk hb
  clear ha hb
  go_enter Try.func25, Try.ntmps25
  go_wp2_with fail
  refine (digits_any _ xs w HA.out hx hxm).mono ?_
  rintro _ w1 ⟨v1, es, rfl, hI1, hl1, hs1, hb1⟩
  go_wp2_with fail
  refine (digits_any _ ys w1 (HB.out.below hb1) hy hym).mono ?_
  rintro _ w2 ⟨v2, fs, rfl, hI2, hl2, hs2, hb2⟩
  go_wp2_with fail
  refine (compare_any _ _ es fs w2 (hs1.below hb2) hs2 hI1.2.1 hI2.2.1 (by omega) (by omega)).mono ?_
  rw [hI1.1, hI2.1]
  rintro _ w3 ⟨rfl, rfl⟩
  go_wp2
  go_ret
  exact ⟨rfl, hb1.trans (hb2.mono hb1.size)⟩

set_option maxHeartbeats 1000000 in
theorem refbits_any (v : Value) (xs : List Nat) (w : World) (hs : SlV w v (C .u32 xs)) (hl : Lo W32 xs) (hm : xs.length ≤ 100000) :
    Calls Try.prog 43 #[v] w fun e w' => e = .returned (.int .i64 (bl (val W32 xs) : Nat)) ∧ Below w.heap.size w w' := by
  have HA := Away.mk hs
  clear hs
  go_enter Try.func43, Try.ntmps43
  go_wp2_with fail
  refine (digits_any _ xs w HA.out hl hm).mono ?_
  rintro _ w1 ⟨v1, es, rfl, hI, hl1, hs1, hb1⟩
  obtain ⟨n, hn⟩ : ∃ n, es.length = n := ⟨_, rfl⟩
  obtain ⟨a, cap, rfl, q1, r1⟩ := hs1.shapeC hn
  have hnm : n ≤ 200000 := by omega
  rcases Nat.eq_zero_or_pos n with h0 | h0
  · subst h0
    have hz : bl (val W32 xs) = 0 := by rw [← hI.1, List.eq_nil_of_length_eq_zero hn]; rfl
    have HZ := Away.mk hz
    clear hI hs1 hz
    go_wp2
    go_ret
    exact ⟨ret_int (by rw [HZ.out]; rfl), hb1⟩
  · obtain ⟨b, off, rfl, _, hc⟩ := hs1.cells (by rw [C_length]; omega)
    have hck := hc (n - 1) _ (C_get _ (by omega))
    have hx : es.getD (n - 1) 0 < 65536 := hI.2.1.getD (by decide) _
    have hx0 : es.getD (n - 1) 0 ≠ 0 := by have := hI.last (by decide) (by omega); rwa [hn] at this
    have htop : bl (val W32 xs) = 16 * (n - 1) + bl (es.getD (n - 1) 0) := by
      rw [← hI.1, val_split es (n - 1), val_drop_zero (fun j hj => getD_past (by omega)), Nat.mul_zero, Nat.add_zero, pow16, bl_add ?_ hx0]
      have := val_take_lt (B := W16) (by decide) hI.2.1 (n - 1)
      rwa [pow16] at this
    have HT := Away.mk htop
    generalize es.getD (n - 1) 0 = x at *
    have hbx : bl x ≤ 16 := (bl_le x 16).2 (by omega)
    have e1 : (n : Int) - 1 = ((n - 1 : Nat) : Int) := by omega
    obtain ⟨p, hp⟩ : ∃ p, n - 1 = p := ⟨_, rfl⟩
    rw [hp] at hck HT e1
    have hpn : p < n := by omega
    have HB := Away.mk hb1
    have hne : ((n : Int) == 0) = false := by simp; omega
    clear htop hI hs1 hc hp hb1
    go_wp2
    go_loop [4, 5] (fun nv xv => ∃ k y : Nat, xv = .int .u64 (y : Int) ∧ nv = .int .i64 (k : Int) ∧ k + bl y = 16 * p + bl x ∧ y < 65536) (fun _ x => (intOf x).toNat)
    case atStart => exact ⟨16 * p, x, rfl, by simp, rfl, hx⟩
    case round =>
      obtain ⟨k, y, rfl, rfl, hky, hy⟩ := hrel
      have hkm : k ≤ 10000000 := by omega
      rcases Nat.eq_zero_or_pos y with hy0 | hy0
      · subst hy0
        rw [bl_zero, Nat.add_zero] at hky
        have HK := Away.mk hky
        clear hky
        go_wp2
        go_ret
        exact ⟨ret_int (by rw [HK.out, HT.out]), HB.out⟩
      · have hh := bl_half (show y ≠ 0 by omega)
        have HK := Away.mk hky; have HH := Away.mk hh
        clear hky hh
        go_wp2
        go_round
        case rel => exact ⟨k + 1, y / 2, by simp, by simp, by have := HK.out; have := HH.out; omega, by omega⟩
        case measure => simp [intOf]; omega
theorem pow_mod32 {r : Nat} (h : r < 32) : (2 : Int) ^ r % 4294967296 = ((2 ^ r : Nat) : Int) := by
  have h1 : 2 ^ r < 4294967296 := Nat.lt_of_lt_of_le (Nat.pow_lt_pow_right (by decide) h) (by decide)
  have e : (2 : Int) ^ r = ((2 ^ r : Nat) : Int) := by simp
  rw [e]
  clear e
  generalize 2 ^ r = p at *
  omega
theorem refbit_any (v : Value) (xs : List Nat) (i : Int) (w : World) (hs : SlV w v (C .u32 xs)) (hl : Lo W32 xs) (hm : xs.length ≤ 100000) (hi : 0 ≤ i) (h2 : i / 32 < xs.length) :
    Calls Try.prog 44 #[v, .int .i64 i] w fun e w' => e = .returned (.int .i64 (((xs.getD (i / 32).toNat 0) / 2 ^ (i % 32).toNat % 2 : Nat) : Int)) ∧ w = w' := by
  obtain ⟨n, hn⟩ : ∃ n, xs.length = n := ⟨_, rfl⟩
  obtain ⟨a, cap, rfl, q1, r1⟩ := hs.shapeC hn
  obtain ⟨b, off, rfl, hbl, hcx⟩ := hs.cells (by rw [C_length]; omega)
  obtain ⟨j, rfl⟩ := Int.eq_ofNat_of_zero_le hi
  have hck := hcx (j / 32) _ (C_get _ (by omega))
  have hxb : xs.getD (j / 32) 0 < 4294967296 := hl.getD (by decide) _
  rw [show ((j : Int) / 32).toNat = j / 32 by omega, show ((j : Int) % 32).toNat = j % 32 by omega]
  generalize xs.getD (j / 32) 0 = x at *
  rw [hn] at hm h2
  clear hcx hs
  go_enter Try.func44, Try.ntmps44
  go_wp2
  · rename_i h3 h4
    exfalso
    rw [pow_mod32 (Nat.mod_lt _ (by decide))] at h4
    have : 0 < 2 ^ (j % 32) := Nat.pow_pos (by decide)
    omega
  · go_ret
    rw [pow_mod32 (Nat.mod_lt _ (by decide))]
    exact ⟨ret_int (by simp), rfl⟩
theorem refbit_none (v : Value) (xs : List Nat) (i : Int) (w : World) (hs : SlV w v (C .u32 xs)) (hm : xs.length ≤ 100000) (hi : i < 0 ∨ xs.length ≤ i / 32) (hi2 : i ≤ 9223372036854775807) :
    Calls Try.prog 44 #[v, .int .i64 i] w fun e w' => e = .returned (.int .i64 0) ∧ w = w' := by
  obtain ⟨n, hn⟩ : ∃ n, xs.length = n := ⟨_, rfl⟩
  obtain ⟨a, cap, rfl, q1, r1⟩ := hs.shapeC hn
  rw [hn] at hi
  by_cases h0 : i < 0
  · have d1 : decide (i < 0) = true := decide_eq_true h0
    go_enter Try.func44, Try.ntmps44
    go_wp2
    go_ret
    exact ⟨rfl, rfl⟩
  · obtain ⟨j, rfl⟩ := Int.eq_ofNat_of_zero_le (Int.not_lt.1 h0)
    have d1 : decide ((j : Int) < 0) = false := decide_eq_false h0
    have d2 : decide ((n : Int) ≤ (j : Int) / 32) = true := decide_eq_true (by omega)
    go_enter Try.func44, Try.ntmps44
    go_wp2
    go_ret
    exact ⟨rfl, rfl⟩

set_option maxHeartbeats 1000000 in
theorem reffill_any (v : Value) (ds : List Nat) (n : Nat) (w : World) (hs : SlV w v (C .u64 ds)) (hl : Lo W16 ds) (hm : ds.length ≤ 1000000) (hn2 : n ≤ 1000000) :
    Calls Try.prog 57 #[v, .int .i64 (n : Int)] w fun e w' => ∃ v', e = .returned v' ∧ SlV w' v' (C .u8 (be (val W16 ds) n)) ∧ Below w.heap.size w w' := by
  obtain ⟨i0, hi, hz0, hz1, hz2⟩ := info_parts Try.info5
  have HS := Away.mk hs
  clear hs
  go_enter Try.func57, Try.ntmps57
  go_wp2_with (at_make; refine wpList_make_full _ rfl _ _ 22 rfl w.heap.size 5 i0 _ 1 Try.underlying22 hi hz0 hz1 _ _ _ _ n rfl rfl rfl rfl (by rw [hz2]; omega) (by unfold maxLen; omega) (Nat.le_refl _) ?_)
  intro w3 hown hg3
  have hr3 := Row.ofOwn (own_made hown)
  rw [← C_zeros] at hr3
  have hB3 : Below w.heap.size w w3 := (Below.refl _ w).grown hg3 (Nat.le_refl _) (by simp)
  have HR3 := Away.mk hr3; have HB3 := Away.mk hB3
  clear hown hg3 hr3 hB3
  go_wp2
  go_loopw [6] (fun iv wr => ∃ (k : Nat) (out : List Nat), k ≤ n ∧ iv = .int .i64 (k : Int) ∧ out.length = n ∧ (∀ j, j < k → out.getD (n - 1 - j) 0 = val W16 ds / 256 ^ j % 256) ∧ Row wr w.heap.size 5 (C .u8 out) ∧ Below w.heap.size w wr) (fun i _ => n - (intOf i).toNat)
  case atStart => exact ⟨0, _, Nat.zero_le _, rfl, by simp, fun j hj => by omega, HR3.out, HB3.out⟩
  case round =>
    obtain ⟨k, out, hk, rfl, hol, hval, hr, hb⟩ := hrel
    by_cases hlt : k < n
    · have hd := digit_any v ds (k / 2) wr (HS.out.below hb) hm (by omega)
      have hxb : ds.getD (k / 2) 0 < 65536 := hl.getD (by decide) _
      have hbyte := byte_of_digit (val W16 ds) k
      rw [show val W16 ds / 65536 ^ (k / 2) % 65536 = ds.getD (k / 2) 0 from (getD_val (by decide) hl _).symm] at hbyte
      generalize ds.getD (k / 2) 0 = x at *
      obtain ⟨kh, hkh⟩ : ∃ kh, k / 2 = kh := ⟨_, rfl⟩
      have e2 : (k : Int) / 2 = (kh : Int) := by omega
      rw [hkh] at hd
      clear hkh
      obtain ⟨p, hp⟩ : ∃ p, n - 1 - k = p := ⟨_, rfl⟩
      have hco := (hr.cell p).trans (C_get _ (by omega))
      have hfo := hr.frozen p
      have e3 : (n : Int) - 1 - k = (p : Int) := by omega
      have hpn : p < n := by omega
      have HP := Away.mk hp; have HV := Away.mk hval; have HR := Away.mk hr; have HB := Away.mk hb; have HBY := Away.mk hbyte; have HD := Away.mk hd
      clear hp hval hr hb hbyte hd
      have hfin : ∀ (z : Nat), z = val W16 ds / 256 ^ k % 256 → ∃ (k' : Nat) (out' : List Nat), k' ≤ n ∧ Value.int .i64 ((k : Int) + 1) = .int .i64 (k' : Int) ∧ out'.length = n ∧ (∀ j, j < k' → out'.getD (n - 1 - j) 0 = val W16 ds / 256 ^ j % 256) ∧ Row (wr.setCell ⟨w.heap.size, p, none⟩ (.int .u8 (z : Int))) w.heap.size 5 (C .u8 out') ∧ Below w.heap.size w (wr.setCell ⟨w.heap.size, p, none⟩ (.int .u8 (z : Int))) := fun z hz => by
        have hp := HP.out
        refine ⟨k + 1, out.set p z, by omega, by simp, by simp [hol], fun j hj => ?_, by rw [C_set]; exact HR.out.set p _, HB.out.setCell (p := ⟨w.heap.size, p, none⟩) (Nat.le_refl _) _⟩
        by_cases hjk : j = k
        · subst hjk; rw [hp, getD_set_same (by omega), hz]
        · rw [getD_set_other _ _ (by omega), HV.out j (by omega)]
      have HF := Away.mk hfin
      clear hfin
      by_cases ho : k % 2 = 1
      · have d1 : (k : Int) % 2 = 1 := by omega
        have hby := HBY.out
        rw [if_pos ho] at hby
        have HBY2 := Away.mk hby
        clear hby
        go_wp2_with fail
        refine HD.out.mono ?_
        rintro _ w1 ⟨rfl, rfl⟩
        go_wp2
        go_roundw
        case rel =>
          have := HF.out (x / 256) (by have := HBY2.out; rwa [Nat.mod_eq_of_lt (by omega)] at this)
          simpa using this
        case measure => simp [intOf]; omega
      · have d1 : ((k : Int) % 2 == 1) = false := by simp; omega
        have hby := HBY.out
        rw [if_neg ho] at hby
        have HBY2 := Away.mk hby
        clear hby
        go_wp2_with fail
        refine HD.out.mono ?_
        rintro _ w1 ⟨rfl, rfl⟩
        go_wp2
        go_roundw
        case rel =>
          have := HF.out (x % 256) HBY2.out
          simpa using this
        case measure => simp [intOf]; omega
    · obtain rfl : k = n := by omega
      have hfin : out = be (val W16 ds) k := by
        apply List.ext_getElem (by rw [be_length, hol])
        intro i h1 h2
        have e1 := hval (k - 1 - i) (by omega)
        have e2 := be_getD (val W16 ds) k i (by omega)
        rw [show k - 1 - (k - 1 - i) = i by omega] at e1
        simp only [List.getD, List.getElem?_eq_getElem h1] at e1
        simp only [List.getD, List.getElem?_eq_getElem h2] at e2
        simp only [Option.getD_some] at e1 e2
        rw [e1, e2]
      rw [hfin] at hr
      have HR := Away.mk hr; have HBL := Away.mk hb
      clear hval hr hb hfin
      go_wp2
      go_ret
      refine ⟨_, rfl, ?_, HBL.out⟩
      have := HR.out.slAll (by rw [C_length, be_length]; unfold maxLen; omega)
      rwa [C_length, be_length] at this
theorem refbytes_any (v : Value) (xs : List Nat) (w : World) (hs : SlV w v (C .u32 xs)) (hl : Lo W32 xs) (hm : xs.length ≤ 100000) :
    Calls Try.prog 37 #[v] w fun e w' => ∃ v', e = .returned v' ∧ SlV w' v' (C .u8 (be (val W32 xs) ((bl (val W32 xs) + 7) / 8))) ∧ Below w.heap.size w w' := by
  have hbb : bl (val W32 xs) ≤ 32 * xs.length := (bl_le _ _).2 (by have := val_lt (B := W32) (by decide) hl; rwa [pow32] at this)
  have HS := Away.mk hs
  obtain ⟨L, hL⟩ : ∃ L, bl (val W32 xs) = L := ⟨_, rfl⟩
  have hLm : L ≤ 3200000 := by omega
  have HL := Away.mk hL
  clear hs hbb hL
  go_enter Try.func37, Try.ntmps37
  go_wp2_with fail
  refine (digits_any _ xs w HS.out hl hm).mono ?_
  rintro _ w1 ⟨v1, es, rfl, hI, hl1, hs1, hb1⟩
  go_wp2_with fail
  refine (refbits_any _ xs w1 (HS.out.below hb1) hl hm).mono ?_
  rw [HL.out]
  rintro _ w2 ⟨rfl, hb2⟩
  have HF := Away.mk (reffill_any v1 es ((L + 7) / 8) w2 (hs1.below hb2) hI.2.1 (by omega) (by omega))
  rw [hI.1] at HF
  have HB := Away.mk (hb1.trans (hb2.mono hb1.size))
  clear hb1 hb2 hs1 hI
  go_wp2_with fail
  rw [show ((L : Int) + 7) / 8 = (((L + 7) / 8 : Nat) : Int) by omega]
  refine HF.out.mono ?_
  rintro _ w3 ⟨v', rfl, hs', hb3⟩
  go_wp2
  go_ret
  refine ⟨_, rfl, by rw [HL.out]; exact hs', HB.out.trans (hb3.mono HB.out.size)⟩
end Go.Proofs.Ytbefchlgonlfiaa
