/-
  Contracts of From, size, filled, Bytes, Fill, Read, Bit, over this seat's translation. Conditions: at most 100000 words.
-/
import Derived.Test.YtbefchlgonlfiaaNatS2
import Derived.Test.YtbefchlgonlfiaaNatM3
namespace Go.Proofs.Ytbefchlgonlfiaa
open Go.RowKit
set_option linter.unusedVariables false

theorem Try.info5 : (Try.prog.info? 5).map (fun i => (i.zero, i.size, i.bytes)) = some (some (.int .u8 0), 1, 1) := by kernel_rfl
theorem Try.size5 : (Try.prog.info? 5).map (·.size) = some 1 := by kernel_rfl

theorem from_any (n : Nat) (hn : n < 18446744073709551616) (w : World) :
    Calls Try.prog 42 #[.int .u64 (n : Int)] w fun e w' => ∃ v', e = .returned v' ∧ Ans w.heap.size w' v' n ∧ Below w.heap.size w w' := by
  have hr := Row.new w 45 (C .u32 [n % 4294967296, n / 4294967296])
  have ht := trimmed_new w.heap.size w.heap.size [n % 4294967296, n / 4294967296] _ hr (Nat.le_refl _) (by intro x hx; show x < 4294967296; simp at hx; rcases hx with rfl | rfl <;> omega) (by simp)
  have hv : val W32 [n % 4294967296, n / 4294967296] = n := by simp only [val, W32]; omega
  rw [hv] at ht
  simp only [C, List.map_cons, List.map_nil, List.length_cons, List.length_nil, Nat.zero_add, Nat.reduceAdd] at ht
  have HT := Away.mk ht
  clear ht hr hv
  go_enter Try.func42, Try.ntmps42
  go_wp2_with fail
  rw [show (n : Int) % 4294967296 = ((n % 4294967296 : Nat) : Int) by simp, show (n : Int) / 4294967296 = ((n / 4294967296 : Nat) : Int) by simp]
  refine HT.out.mono ?_
  rintro _ w6 ⟨v', rfl, hans, hb6⟩
  go_wp2
  go_ret
  have hb := (Below.refl w.heap.size w).alloc (Nat.le_refl _) (.cells #[.int .u32 ((n % 4294967296 : Nat) : Int), .int .u32 ((n / 4294967296 : Nat) : Int)] 45)
  exact ⟨_, rfl, hans, hb.trans (hb6.mono hb.size)⟩
theorem size_any (v : Value) (xs : List Nat) (w : World) (hs : SlV w v (C .u32 xs)) (hl : Lo W32 xs) (hm : xs.length ≤ 100000) :
    Calls Try.prog 46 #[v] w fun e w' => e = .returned (.int .i64 (((bl (val W32 xs) + 7) / 8 : Nat) : Int)) ∧ Below w.heap.size w w' := by
  have hbb : bl (val W32 xs) ≤ 32 * xs.length := (bl_le _ _).2 (by have := val_lt (B := W32) (by decide) hl; rwa [pow32] at this)
  have HB := Away.mk (bits_any v xs w hs hl (by omega))
  generalize bl (val W32 xs) = L at *
  clear hs hl
  go_enter Try.func46, Try.ntmps46
  go_wp2_with fail
  refine HB.out.mono ?_
  rintro _ w' ⟨rfl, hb⟩
  go_wp2
  go_ret
  exact ⟨ret_int (by omega), hb⟩
theorem bit_any (v : Value) (xs : List Nat) (i : Int) (w : World) (hs : SlV w v (C .u32 xs)) (hl : Lo W32 xs) (hm : xs.length ≤ 100000) (hi : 0 ≤ i) (h2 : i / 32 < xs.length) :
    Calls Try.prog 56 #[v, .int .i64 i] w fun e w' => e = .returned (.int .i64 (((xs.getD (i / 32).toNat 0) / 2 ^ (i % 32).toNat % 2 : Nat) : Int)) ∧ w = w' := by
  obtain ⟨n, hn⟩ : ∃ n, xs.length = n := ⟨_, rfl⟩
  obtain ⟨a, cap, rfl, q1, r1⟩ := hs.shapeC hn
  obtain ⟨b, off, rfl, hbl, hcx⟩ := hs.cells (by rw [C_length]; omega)
  obtain ⟨j, rfl⟩ := Int.eq_ofNat_of_zero_le hi
  have hck := hcx (j / 32) _ (C_get _ (by omega))
  have hxb : xs.getD (j / 32) 0 < 4294967296 := hl.getD (by decide) _
  rw [show ((j : Int) / 32).toNat = j / 32 by omega, show ((j : Int) % 32).toNat = j % 32 by omega]
  generalize xs.getD (j / 32) 0 = x at *
  rw [hn] at hm h2
  clear hcx hs
  go_enter Try.func56, Try.ntmps56
  go_wp2
  have e1 : (x : Int) / 2 ^ (j % 32) = ((x / 2 ^ (j % 32) : Nat) : Int) := by simp
  have e2 : x / 2 ^ (j % 32) < 4294967296 := Nat.lt_of_le_of_lt (Nat.div_le_self _ _) hxb
  rw [e1]
  generalize x / 2 ^ (j % 32) = y at *
  have e3 := u32_and_nat y 1 e2 (by decide)
  rw [Nat.and_one_is_mod] at e3
  rw [show (1 : Int) = ((1 : Nat) : Int) from rfl, e3]
  go_ret
  exact ⟨ret_int (by unfold wrap64; omega), rfl⟩
theorem bit_none (v : Value) (xs : List Nat) (i : Int) (w : World) (hs : SlV w v (C .u32 xs)) (hm : xs.length ≤ 100000) (hi : i < 0 ∨ xs.length ≤ i / 32) (hi2 : i ≤ 9223372036854775807) :
    Calls Try.prog 56 #[v, .int .i64 i] w fun e w' => e = .returned (.int .i64 0) ∧ w = w' := by
  obtain ⟨n, hn⟩ : ∃ n, xs.length = n := ⟨_, rfl⟩
  obtain ⟨a, cap, rfl, q1, r1⟩ := hs.shapeC hn
  rw [hn] at hi
  by_cases h0 : i < 0
  · have d1 : decide (i < 0) = true := decide_eq_true h0
    go_enter Try.func56, Try.ntmps56
    go_wp2
    go_ret
    exact ⟨rfl, rfl⟩
  · obtain ⟨j, rfl⟩ := Int.eq_ofNat_of_zero_le (Int.not_lt.1 h0)
    have d1 : decide ((j : Int) < 0) = false := decide_eq_false h0
    have d2 : decide ((n : Int) ≤ (j : Int) / 32) = true := decide_eq_true (by omega)
    go_enter Try.func56, Try.ntmps56
    go_wp2
    go_ret
    exact ⟨rfl, rfl⟩

set_option maxHeartbeats 1000000 in
theorem filled_any (v : Value) (xs : List Nat) (n : Nat) (w : World) (hs : SlV w v (C .u32 xs)) (hl : Lo W32 xs) (hm : xs.length ≤ 100000) (hn : (bl (val W32 xs) + 7) / 8 ≤ n) (hn2 : n ≤ 1000000) :
    Calls Try.prog 45 #[v, .int .i64 (n : Int)] w fun e w' => ∃ v', e = .returned v' ∧ SlV w' v' (C .u8 (be (val W32 xs) n)) ∧ Below w.heap.size w w' := by
  obtain ⟨i0, hi, hz0, hz1, hz2⟩ := info_parts Try.info5
  obtain ⟨m, hm'⟩ : ∃ m, xs.length = m := ⟨_, rfl⟩
  obtain ⟨a, cap, rfl, q1, r1⟩ := hs.shapeC hm'
  have hbb : bl (val W32 xs) ≤ 32 * xs.length := (bl_le _ _).2 (by have := val_lt (B := W32) (by decide) hl; rwa [pow32] at this)
  obtain ⟨sz, hsz⟩ : ∃ sz, (bl (val W32 xs) + 7) / 8 = sz := ⟨_, rfl⟩
  have hszm : sz ≤ 4 * m := by omega
  have HSZ := Away.mk hsz
  rw [hsz] at hn
  rw [hm'] at hm
  clear hbb hsz
  go_enter Try.func45, Try.ntmps45
  go_wp2_with (at_make; refine wpList_make_full _ rfl _ _ 22 rfl w.heap.size 5 i0 _ 1 Try.underlying22 hi hz0 hz1 _ _ _ _ n rfl rfl rfl rfl (by rw [hz2]; omega) (by unfold maxLen; omega) (Nat.le_refl _) ?_)
  intro w3 hown hg3
  have hr3 := Row.ofOwn (own_made hown)
  rw [← C_zeros] at hr3
  have hB3 : Below w.heap.size w w3 := (Below.refl _ w).grown hg3 (Nat.le_refl _) (by simp)
  have hs3 := hs.below hB3
  have HR3 := Away.mk hr3; have HB3 := Away.mk hB3; have HS3 := Away.mk hs3
  have HOW := Away.mk hs.own
  clear hown hg3 hr3 hB3 hs3 hs
  go_wp2_with fail
  refine (size_any _ xs w3 HS3.out hl (by omega)).mono ?_
  rw [HSZ.out]
  rintro _ w4 ⟨rfl, hb4⟩
  have hr4 := HR3.out.belowS hb4
  have hb4' := HB3.out.trans (hb4.mono HB3.out.size)
  have hs4 := HS3.out.below hb4
  have HR4 := Away.mk hr4; have HB4 := Away.mk hb4'; have HS4 := Away.mk hs4
  clear hr4 hb4 hb4' hs4 HR3 HB3 HS3
  go_wp2
  go_loopw [11] (fun iv wr => ∃ (k : Nat) (out : List Nat), k ≤ sz ∧ iv = .int .i64 (k : Int) ∧ out.length = n ∧ (∀ j, j < n → out.getD (n - 1 - j) 0 = if j < k then val W32 xs / 256 ^ j % 256 else 0) ∧ Row wr w.heap.size 5 (C .u8 out) ∧ w4.grownBy wr (some w.heap.size)) (fun i _ => sz - (intOf i).toNat)
  case atStart => exact ⟨0, _, Nat.zero_le _, rfl, by simp, fun j hj => by simp [List.getD, show n - 1 - j < n by omega], HR4.out, grown_refl _ _⟩
  case round =>
    obtain ⟨k, out, hk, rfl, hol, hval, hr, hg⟩ := hrel
    by_cases hlt : k < sz
    · obtain ⟨b, off, rfl, hbl, hcx⟩ := HS4.out.cells (by rw [C_length]; omega)
      have hb0 : b < w.heap.size := HOW.out (by rw [C_length]; omega) b rfl
      have hblk : wr.heap[b]? = w4.heap[b]? := hg.block b hbl (by simp; omega)
      have hck : wr.cell? ⟨b, off + k / 4, none⟩ = some (.int .u32 ((xs.getD (k / 4) 0 : Nat) : Int)) := by
        rw [World.cell?_of_block (a := ⟨b, off + k / 4, none⟩) hblk]
        exact hcx (k / 4) _ (C_get _ (by omega))
      have hxb : xs.getD (k / 4) 0 < 4294967296 := hl.getD (by decide) _
      have hbyte := byte_of_word (val W32 xs) k
      rw [show val W32 xs / 4294967296 ^ (k / 4) % 4294967296 = xs.getD (k / 4) 0 from (getD_val (by decide) hl _).symm] at hbyte
      generalize xs.getD (k / 4) 0 = x at *
      have hco := (hr.cell (n - 1 - k)).trans (C_get _ (by omega))
      have hfo := hr.frozen (n - 1 - k)
      have HV := Away.mk hval; have HR := Away.mk hr; have HG := Away.mk hg; have HBY := Away.mk hbyte
      clear hval hr hg hcx hblk hbyte
      have e1 : ((n - 1 - k : Nat) : Int) = (n : Int) - 1 - k := by omega
      obtain ⟨p, hp⟩ : ∃ p, n - 1 - k = p := ⟨_, rfl⟩
      rw [hp] at hco hfo e1
      have HP := Away.mk hp
      have hpn : p < n := by omega
      clear hp
      have e2 := e1.symm
      have hd4 : k / 4 < m := by omega
      clear e1
      go_wp2
      go_roundw
      case rel =>
        have hp := HP.out
        refine ⟨k + 1, out.set p (x / 2 ^ (k % 4 * 8) % 256), by omega, by go_num, by simp [hol], ?_, ?_, grown_tr HG.out (grown_set _ _ _ _)⟩
        · intro j hj
          by_cases hjk : j = k
          · subst hjk
            rw [hp, if_pos (by omega), ← HBY.out]
            simp [List.getD, show p < out.length by omega]
          · rw [getD_set_other _ _ (by omega), HV.out j hj]
            by_cases h1 : j < k
            · rw [if_pos h1, if_pos (by omega)]
            · rw [if_neg h1, if_neg (by omega)]
        · have := HR.out.set p (.int .u8 ((x / 2 ^ (k % 4 * 8) % 256 : Nat) : Int))
          rw [← C_set] at this
          simpa using this
      case measure => simp [intOf]; omega
    · obtain rfl : k = sz := by omega
      have hfin : out = be (val W32 xs) n := by
        apply List.ext_getElem (by rw [be_length, hol])
        intro i h1 h2
        have e1 := hval (n - 1 - i) (by omega)
        have e2 := be_getD (val W32 xs) n i (by omega)
        rw [show n - 1 - (n - 1 - i) = i by omega] at e1
        simp only [List.getD, List.getElem?_eq_getElem h1] at e1
        simp only [List.getD, List.getElem?_eq_getElem h2] at e2
        simp only [Option.getD_some] at e1 e2
        rw [e1, e2]
        split
        · rfl
        · have h3 : val W32 xs < 256 ^ (n - 1 - i) := (size_le _ _).1 (by rw [HSZ.out]; omega)
          rw [Nat.div_eq_of_lt h3]
      rw [hfin] at hr
      have hbl := HB4.out.grown hg HB4.out.size (by simp)
      have HR := Away.mk hr; have HBL := Away.mk hbl
      clear hval hr hg hbl hfin
      go_wp2
      go_ret
      refine ⟨_, rfl, ?_, HBL.out⟩
      have := HR.out.slAll (by rw [C_length, be_length]; unfold maxLen; omega)
      rwa [C_length, be_length] at this

theorem bytes_any (v : Value) (xs : List Nat) (w : World) (hs : SlV w v (C .u32 xs)) (hl : Lo W32 xs) (hm : xs.length ≤ 100000) :
    Calls Try.prog 22 #[v] w fun e w' => ∃ v', e = .returned v' ∧ SlV w' v' (C .u8 (be (val W32 xs) ((bl (val W32 xs) + 7) / 8))) ∧ Below w.heap.size w w' := by
  have hbb : bl (val W32 xs) ≤ 32 * xs.length := (bl_le _ _).2 (by have := val_lt (B := W32) (by decide) hl; rwa [pow32] at this)
  have HS := Away.mk hs
  have HB := Away.mk hbb
  clear hs hbb
  go_enter Try.func22, Try.ntmps22
  go_wp2_with fail
  refine (size_any _ xs w HS.out hl hm).mono ?_
  rintro _ w1 ⟨rfl, hb1⟩
  go_wp2_with fail
  refine (filled_any _ xs _ w1 (HS.out.below hb1) hl hm (Nat.le_refl _) (by have := HB.out; omega)).mono ?_
  rintro _ w2 ⟨v', rfl, hs', hb2⟩
  go_wp2
  go_ret
  exact ⟨_, rfl, hs', hb1.trans (hb2.mono hb1.size)⟩
end Go.Proofs.Ytbefchlgonlfiaa
