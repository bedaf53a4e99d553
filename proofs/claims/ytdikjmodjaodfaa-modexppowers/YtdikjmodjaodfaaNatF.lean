/-
  Contracts of From, size, filled, Bytes, Fill, Read, Bit, over this seat's translation. Conditions: at most 100000 words.
-/
import Derived.Test.YtdikjmodjaodfaaNatS2
import Derived.Test.YtdikjmodjaodfaaNatM3
namespace Go.Proofs.Ytdikjmodjaodfaa
open Go.RowKit
set_option linter.unusedVariables false

theorem Try.info5 : (Try.prog.info? 5).map (fun i => (i.zero, i.size, i.bytes)) = some (some (.int .u8 0), 1, 1) := by kernel_rfl
theorem Try.size5 : (Try.prog.info? 5).map (·.size) = some 1 := by kernel_rfl

theorem from_any (n : Nat) (hn : n < 18446744073709551616) (w : World) :
    Calls Try.prog 26 #[.int .u64 (n : Int)] w fun e w' => ∃ v', e = .returned v' ∧ Ans w.heap.size w' v' n ∧ Below w.heap.size w w' := by
  have hr := Row.new w 34 (C .u32 [n % 4294967296, n / 4294967296])
  have ht := trimmed_new w.heap.size w.heap.size [n % 4294967296, n / 4294967296] _ hr (Nat.le_refl _) (by intro x hx; show x < 4294967296; simp at hx; rcases hx with rfl | rfl <;> omega) (by simp)
  have hv : val W32 [n % 4294967296, n / 4294967296] = n := by simp only [val, W32]; omega
  rw [hv] at ht
  simp only [C, List.map_cons, List.map_nil, List.length_cons, List.length_nil, Nat.zero_add, Nat.reduceAdd] at ht
  have HT := Away.mk ht
  clear ht hr hv
  go_enter Try.func26, Try.ntmps26
  go_wp2_with fail
  rw [show (n : Int) % 4294967296 = ((n % 4294967296 : Nat) : Int) by simp, show (n : Int) / 4294967296 = ((n / 4294967296 : Nat) : Int) by simp]
  refine HT.out.mono ?_
  rintro _ w6 ⟨v', rfl, hans, hb6⟩
  go_wp2
  go_ret
  have hb := (Below.refl w.heap.size w).alloc (Nat.le_refl _) (.cells #[.int .u32 ((n % 4294967296 : Nat) : Int), .int .u32 ((n / 4294967296 : Nat) : Int)] 34)
  exact ⟨_, rfl, hans, hb.trans (hb6.mono hb.size)⟩
theorem bit_any (v : Value) (xs : List Nat) (i : Int) (w : World) (hs : SlV w v (C .u32 xs)) (hl : Lo W32 xs) (hm : xs.length ≤ 100000) (hi : 0 ≤ i) (h2 : i / 32 < xs.length) :
    Calls Try.prog 27 #[v, .int .i64 i] w fun e w' => e = .returned (.int .i64 (((xs.getD (i / 32).toNat 0) / 2 ^ (i % 32).toNat % 2 : Nat) : Int)) ∧ w = w' := by
  obtain ⟨n, hn⟩ : ∃ n, xs.length = n := ⟨_, rfl⟩
  obtain ⟨a, cap, rfl, q1, r1⟩ := hs.shapeC hn
  obtain ⟨b, off, rfl, hbl, hcx⟩ := hs.cells (by rw [C_length]; omega)
  obtain ⟨j, rfl⟩ := Int.eq_ofNat_of_zero_le hi
  have hck := hcx (j / 32) _ (C_get _ (by omega))
  have hxb : xs.getD (j / 32) 0 < 4294967296 := hl.getD (by decide) _
  rw [show ((j : Int) / 32).toNat = j / 32 by omega, show ((j : Int) % 32).toNat = j % 32 by omega]
  generalize xs.getD (j / 32) 0 = x at *
  rw [hn] at hm h2
  clear hcx hs
  go_enter Try.func27, Try.ntmps27
  go_wp2
  have e1 : (x : Int) / 2 ^ (j % 32) = ((x / 2 ^ (j % 32) : Nat) : Int) := by simp
  have e2 : x / 2 ^ (j % 32) < 4294967296 := Nat.lt_of_le_of_lt (Nat.div_le_self _ _) hxb
  rw [e1]
  generalize x / 2 ^ (j % 32) = y at *
  have e3 := u32_and_nat y 1 e2 (by decide)
  rw [Nat.and_one_is_mod] at e3
  rw [show (1 : Int) = ((1 : Nat) : Int) from rfl, e3]
  go_ret
  exact ⟨ret_int (by unfold wrap64; omega), rfl⟩
theorem bit_none (v : Value) (xs : List Nat) (i : Int) (w : World) (hs : SlV w v (C .u32 xs)) (hm : xs.length ≤ 100000) (hi : i < 0 ∨ xs.length ≤ i / 32) (hi2 : i ≤ 9223372036854775807) :
    Calls Try.prog 27 #[v, .int .i64 i] w fun e w' => e = .returned (.int .i64 0) ∧ w = w' := by
  obtain ⟨n, hn⟩ : ∃ n, xs.length = n := ⟨_, rfl⟩
  obtain ⟨a, cap, rfl, q1, r1⟩ := hs.shapeC hn
  rw [hn] at hi
  by_cases h0 : i < 0
  · have d1 : decide (i < 0) = true := decide_eq_true h0
    go_enter Try.func27, Try.ntmps27
    go_wp2
    go_ret
    exact ⟨rfl, rfl⟩
  · obtain ⟨j, rfl⟩ := Int.eq_ofNat_of_zero_le (Int.not_lt.1 h0)
    have d1 : decide ((j : Int) < 0) = false := decide_eq_false h0
    have d2 : decide ((n : Int) ≤ (j : Int) / 32) = true := decide_eq_true (by omega)
    go_enter Try.func27, Try.ntmps27
    go_wp2
    go_ret
    exact ⟨rfl, rfl⟩

end Go.Proofs.Ytdikjmodjaodfaa
