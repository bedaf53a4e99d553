/-
  Contracts of the document's compare, Cmp, Bits, Bit, fill, Bytes, Fill, Read, over this seat's translation. Conditions: at most 100000 words.
-/
import Derived.Test.YtdikjmodjaodfaaRefB
namespace Go.Proofs.Ytdikjmodjaodfaa
open Go.RowKit
set_option linter.unusedVariables false

set_option maxHeartbeats 1000000 in
theorem compare_any (va vb : Value) (xs ys : List Nat) (w : World) (ha : SlV w va (C .u64 xs)) (hb : SlV w vb (C .u64 ys)) (hx : Lo W16 xs) (hy : Lo W16 ys) (hxm : xs.length ≤ 1000000) (hym : ys.length ≤ 1000000) :
    Calls Try.prog 44 #[va, vb] w fun e w' => e = .returned (.int .i64 (cmpI (val W16 xs) (val W16 ys))) ∧ w = w' := by
  obtain ⟨n1, hn1⟩ : ∃ n, xs.length = n := ⟨_, rfl⟩
  obtain ⟨n2, hn2⟩ : ∃ n, ys.length = n := ⟨_, rfl⟩
  have HA := Away.mk (fun i hi => digit_any va xs i w ha hxm hi); have HB := Away.mk (fun i hi => digit_any vb ys i w hb hym hi)
  obtain ⟨a1, c1, rfl, q1, r1⟩ := ha.shapeC hn1
  obtain ⟨a2, c2, rfl, q2, r2⟩ := hb.shapeC hn2
  obtain ⟨m, hmx, h1m, h2m, hmm⟩ : ∃ m : Nat, max (n1 : Int) (n2 : Int) = (m : Int) ∧ n1 ≤ m ∧ n2 ≤ m ∧ m ≤ 1000000 := ⟨max n1 n2, by omega, by omega, by omega, by omega⟩
  clear ha hb
  go_enter Try.func44, Try.ntmps44
  go_wp2
  go_loop [5] (fun iv => ∃ k : Nat, k ≤ m ∧ iv = .int .i64 ((k : Int) - 1) ∧ ∀ j, k ≤ j → xs.getD j 0 = ys.getD j 0) (fun i => (intOf i + 1).toNat)
  case atStart => exact ⟨m, Nat.le_refl _, rfl, fun j hj => by rw [getD_past (by omega), getD_past (by omega)]⟩
  case round =>
    obtain ⟨k, hk, rfl, hz⟩ := hrel
    rcases Nat.eq_zero_or_pos k with h0 | h0
    · subst h0
      have heq : cmpI (val W16 xs) (val W16 ys) = 0 := by rw [val_ext (fun j => hz j (Nat.zero_le _)), cmpI_eq]
      have HC := Away.mk heq
      clear hz heq
      go_wp2
      go_ret
      exact ⟨ret_int HC.out.symm, rfl⟩
    · obtain ⟨i, rfl⟩ : ∃ i, k = i + 1 := ⟨k - 1, by omega⟩
      have e1 : ((i + 1 : Nat) : Int) - 1 = (i : Int) := by omega
      rw [e1]
      have hlt := fun h => val_cmp (B := W16) (by decide) hx i (fun j hj => hz j (by omega)) h
      have hgt := fun h => val_cmp (B := W16) (by decide) hy i (fun j hj => (hz j (by omega)).symm) h
      have HLT := Away.mk hlt; have HGT := Away.mk hgt; have HZ := Away.mk hz
      have HA1 := Away.mk (HA.out i (by omega)); have HB1 := Away.mk (HB.out i (by omega))
      obtain ⟨x, hxx⟩ : ∃ x, xs.getD i 0 = x := ⟨_, rfl⟩
      obtain ⟨y, hyy⟩ : ∃ y, ys.getD i 0 = y := ⟨_, rfl⟩
      rw [hxx] at HLT HGT HA1
      rw [hyy] at HLT HGT HB1
      have HXX := Away.mk hxx; have HYY := Away.mk hyy
      clear hlt hgt hz e1 h0 hxx hyy
      have im : i ≤ 1000000 := by omega
      rcases Nat.lt_trichotomy x y with h | h | h
      · have hc := cmpI_lt (HLT.out h)
        have HC := Away.mk hc
        have d1 : decide (x < y) = true := decide_eq_true h
        clear hc
        go_wp2_with fail
        refine HA1.out.mono ?_
        rintro _ w1 ⟨rfl, rfl⟩
        go_wp2_with fail
        refine HB1.out.mono ?_
        rintro _ w1 ⟨rfl, rfl⟩
        go_wp2
        go_ret
        exact ⟨ret_int HC.out.symm, rfl⟩
      · subst h
        have d1 : decide (x < x) = false := decide_eq_false (by omega)
        go_wp2_with fail
        refine HA1.out.mono ?_
        rintro _ w1 ⟨rfl, rfl⟩
        go_wp2_with fail
        refine HB1.out.mono ?_
        rintro _ w1 ⟨rfl, rfl⟩
        go_wp2_with fail
        refine HA1.out.mono ?_
        rintro _ w1 ⟨rfl, rfl⟩
        go_wp2_with fail
        refine HB1.out.mono ?_
        rintro _ w1 ⟨rfl, rfl⟩
        go_wp2
        go_round
        case rel =>
          refine ⟨i, by omega, rfl, fun j hj => ?_⟩
          by_cases h : j = i
          · rw [h, HXX.out, HYY.out]
          · exact HZ.out j (by omega)
        case measure => simp [intOf]
      · have hc := cmpI_gt (HGT.out h)
        have HC := Away.mk hc
        have d1 : decide (x < y) = false := decide_eq_false (by omega)
        have d2 : decide (y < x) = true := decide_eq_true h
        clear hc
        go_wp2_with fail
        refine HA1.out.mono ?_
        rintro _ w1 ⟨rfl, rfl⟩
        go_wp2_with fail
        refine HB1.out.mono ?_
        rintro _ w1 ⟨rfl, rfl⟩
        go_wp2_with fail
        refine HA1.out.mono ?_
        rintro _ w1 ⟨rfl, rfl⟩
        go_wp2_with fail
        refine HB1.out.mono ?_
        rintro _ w1 ⟨rfl, rfl⟩
        go_wp2
        go_ret
        exact ⟨ret_int HC.out.symm, rfl⟩
set_option maxHeartbeats 1000000 in
theorem refbits_any (v : Value) (xs : List Nat) (w : World) (hs : SlV w v (C .u32 xs)) (hl : Lo W32 xs) (hm : xs.length ≤ 100000) :
    Calls Try.prog 28 #[v] w fun e w' => e = .returned (.int .i64 (bl (val W32 xs) : Nat)) ∧ Below w.heap.size w w' := by
  have HA := Away.mk hs
  clear hs
  go_enter Try.func28, Try.ntmps28
  go_wp2_with fail
  refine (digits_any _ xs w HA.out hl hm).mono ?_
  rintro _ w1 ⟨v1, es, rfl, hI, hl1, hs1, hb1⟩
  obtain ⟨n, hn⟩ : ∃ n, es.length = n := ⟨_, rfl⟩
  obtain ⟨a, cap, rfl, q1, r1⟩ := hs1.shapeC hn
  have hnm : n ≤ 200000 := by omega
  rcases Nat.eq_zero_or_pos n with h0 | h0
  · subst h0
    have hz : bl (val W32 xs) = 0 := by rw [← hI.1, List.eq_nil_of_length_eq_zero hn]; rfl
    have HZ := Away.mk hz
    clear hI hs1 hz
    go_wp2
    go_ret
    exact ⟨ret_int (by rw [HZ.out]; rfl), hb1⟩
  · obtain ⟨b, off, rfl, _, hc⟩ := hs1.cells (by rw [C_length]; omega)
    have hck := hc (n - 1) _ (C_get _ (by omega))
    have hx : es.getD (n - 1) 0 < 65536 := hI.2.1.getD (by decide) _
    have hx0 : es.getD (n - 1) 0 ≠ 0 := by have := hI.last (by decide) (by omega); rwa [hn] at this
    have htop : bl (val W32 xs) = 16 * (n - 1) + bl (es.getD (n - 1) 0) := by
      rw [← hI.1, val_split es (n - 1), val_drop_zero (fun j hj => getD_past (by omega)), Nat.mul_zero, Nat.add_zero, pow16, bl_add ?_ hx0]
      have := val_take_lt (B := W16) (by decide) hI.2.1 (n - 1)
      rwa [pow16] at this
    have HT := Away.mk htop
    generalize es.getD (n - 1) 0 = x at *
    have hbx : bl x ≤ 16 := (bl_le x 16).2 (by omega)
    have e1 : (n : Int) - 1 = ((n - 1 : Nat) : Int) := by omega
    obtain ⟨p, hp⟩ : ∃ p, n - 1 = p := ⟨_, rfl⟩
    rw [hp] at hck HT e1
    have hpn : p < n := by omega
    have HB := Away.mk hb1
    have hne : ((n : Int) == 0) = false := by simp; omega
    clear htop hI hs1 hc hp hb1
    go_wp2
    go_loop [4, 5] (fun nv xv => ∃ k y : Nat, xv = .int .u64 (y : Int) ∧ nv = .int .i64 (k : Int) ∧ k + bl y = 16 * p + bl x ∧ y < 65536) (fun _ x => (intOf x).toNat)
    case atStart => exact ⟨16 * p, x, rfl, by simp, rfl, hx⟩
    case round =>
      obtain ⟨k, y, rfl, rfl, hky, hy⟩ := hrel
      have hkm : k ≤ 10000000 := by omega
      rcases Nat.eq_zero_or_pos y with hy0 | hy0
      · subst hy0
        rw [bl_zero, Nat.add_zero] at hky
        have HK := Away.mk hky
        clear hky
        go_wp2
        go_ret
        exact ⟨ret_int (by rw [HK.out, HT.out]), HB.out⟩
      · have hh := bl_half (show y ≠ 0 by omega)
        have HK := Away.mk hky; have HH := Away.mk hh
        clear hky hh
        go_wp2
        go_round
        case rel => exact ⟨k + 1, y / 2, by simp, by simp, by have := HK.out; have := HH.out; omega, by omega⟩
        case measure => simp [intOf]; omega
theorem pow_mod32 {r : Nat} (h : r < 32) : (2 : Int) ^ r % 4294967296 = ((2 ^ r : Nat) : Int) := by
  have h1 : 2 ^ r < 4294967296 := Nat.lt_of_lt_of_le (Nat.pow_lt_pow_right (by decide) h) (by decide)
  have e : (2 : Int) ^ r = ((2 ^ r : Nat) : Int) := by simp
  rw [e]
  clear e
  generalize 2 ^ r = p at *
  omega
theorem refbit_any (v : Value) (xs : List Nat) (i : Int) (w : World) (hs : SlV w v (C .u32 xs)) (hl : Lo W32 xs) (hm : xs.length ≤ 100000) (hi : 0 ≤ i) (h2 : i / 32 < xs.length) :
    Calls Try.prog 29 #[v, .int .i64 i] w fun e w' => e = .returned (.int .i64 (((xs.getD (i / 32).toNat 0) / 2 ^ (i % 32).toNat % 2 : Nat) : Int)) ∧ w = w' := by
  obtain ⟨n, hn⟩ : ∃ n, xs.length = n := ⟨_, rfl⟩
  obtain ⟨a, cap, rfl, q1, r1⟩ := hs.shapeC hn
  obtain ⟨b, off, rfl, hbl, hcx⟩ := hs.cells (by rw [C_length]; omega)
  obtain ⟨j, rfl⟩ := Int.eq_ofNat_of_zero_le hi
  have hck := hcx (j / 32) _ (C_get _ (by omega))
  have hxb : xs.getD (j / 32) 0 < 4294967296 := hl.getD (by decide) _
  rw [show ((j : Int) / 32).toNat = j / 32 by omega, show ((j : Int) % 32).toNat = j % 32 by omega]
  generalize xs.getD (j / 32) 0 = x at *
  rw [hn] at hm h2
  clear hcx hs
  go_enter Try.func29, Try.ntmps29
  go_wp2
  · rename_i h3 h4
    exfalso
    rw [pow_mod32 (Nat.mod_lt _ (by decide))] at h4
    have : 0 < 2 ^ (j % 32) := Nat.pow_pos (by decide)
    omega
  · go_ret
    rw [pow_mod32 (Nat.mod_lt _ (by decide))]
    exact ⟨ret_int (by simp), rfl⟩
theorem refbit_none (v : Value) (xs : List Nat) (i : Int) (w : World) (hs : SlV w v (C .u32 xs)) (hm : xs.length ≤ 100000) (hi : i < 0 ∨ xs.length ≤ i / 32) (hi2 : i ≤ 9223372036854775807) :
    Calls Try.prog 29 #[v, .int .i64 i] w fun e w' => e = .returned (.int .i64 0) ∧ w = w' := by
  obtain ⟨n, hn⟩ : ∃ n, xs.length = n := ⟨_, rfl⟩
  obtain ⟨a, cap, rfl, q1, r1⟩ := hs.shapeC hn
  rw [hn] at hi
  by_cases h0 : i < 0
  · have d1 : decide (i < 0) = true := decide_eq_true h0
    go_enter Try.func29, Try.ntmps29
    go_wp2
    go_ret
    exact ⟨rfl, rfl⟩
  · obtain ⟨j, rfl⟩ := Int.eq_ofNat_of_zero_le (Int.not_lt.1 h0)
    have d1 : decide ((j : Int) < 0) = false := decide_eq_false h0
    have d2 : decide ((n : Int) ≤ (j : Int) / 32) = true := decide_eq_true (by omega)
    go_enter Try.func29, Try.ntmps29
    go_wp2
    go_ret
    exact ⟨rfl, rfl⟩

end Go.Proofs.Ytdikjmodjaodfaa
