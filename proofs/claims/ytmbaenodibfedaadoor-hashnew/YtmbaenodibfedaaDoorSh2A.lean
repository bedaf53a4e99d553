/-
  Contracts of the second hash's small functions (rotations, their sums, the steps' numbers), the program's and the document's, over this seat's translation. Conditions: each as it says.
-/
import Derived.Test.YtmbaenodibfedaaDoorSh2M
import Derived.Test.YtmbaenodibfedaaDoorKit6
import Derived.Test.YtmbaenodibfedaaDoorRows
import Derived.Deep.RegionHeld3
import Derived.Deep.DeepCutAuto
import Derived.Deep.Cut
namespace Go.Proofs.YtmbaenodibfedaaDoor.S2
open Go.RowKit
open S1 (or_lt32 and_lt32 xor_lt32 shr_lt32 mod_lt32 wd wd_lt be be8 zs1 pad1 out4 not32)
set_option linter.unusedVariables false

theorem rotl_any (x n : Nat) (hx : x < 4294967296) (h0 : 0 < n) (hn : n < 32) (w : World) :
    Calls Tryd.prog 66 #[.int .u32 (x : Int), .int .i64 (-(n : Int))] w fun e w' => e = .returned (.int .u32 (ror n x : Nat)) ∧ w = w' := by
  have ho := ror_eq x n hx (by omega)
  obtain ⟨k, hk⟩ : ∃ k, 32 - n = k := ⟨_, rfl⟩
  have hw : IntKind.u64.wrap (-(n : Int)) = ((18446744073709551616 - n : Nat) : Int) := by simp [IntKind.wrap, IntKind.bits, IntKind.signed]; omega
  have ha : bits .and .u64 ((18446744073709551616 - n : Nat) : Int) 31 = (k : Int) := by
    have := u64_and_nat (18446744073709551616 - n) 31 (by omega) (by decide)
    rw [show ((31 : Nat) : Int) = 31 from rfl] at this
    rw [this, show (31 : Nat) = 2 ^ 5 - 1 from rfl, Nat.and_two_pow_sub_one_eq_mod]
    omega
  have hkn : 32 - k = n := by omega
  have hkn' : (32 : Int) - (k : Int) = (n : Int) := by omega
  rw [hk] at ho
  generalize 18446744073709551616 - n = m at *
  clear hk
  go_enter Tryd.func66, Tryd.ntmps66
  go_wp2
  go_ret
  exact ⟨rfl, rfl⟩
theorem rotated_any (x n : Nat) (hx : x < 4294967296) (h0 : 0 < n) (hn : n < 32) (w : World) :
    Calls Tryd.prog 77 #[.int .u32 (x : Int), .int .i64 (n : Int)] w fun e w' => e = .returned (.int .u32 (ror n x : Nat)) ∧ w = w' := by
  go_enter Tryd.func77, Tryd.ntmps77
  go_wp2_with fail
  refine (rotl_any x n hx h0 hn _).mono ?_
  rintro _ w' ⟨rfl, rfl⟩
  go_wp2
  go_ret
  exact ⟨rfl, rfl⟩
theorem turned_any (x i j k : Nat) (hx : x < 4294967296) (hi0 : 0 < i) (hi : i < 32) (hj0 : 0 < j) (hj : j < 32) (hk0 : 0 < k) (hk : k < 32) (w : World) :
    Calls Tryd.prog 73 #[.int .u32 (x : Int), .int .i64 (i : Int), .int .i64 (j : Int), .int .i64 (k : Int)] w fun e w' => e = .returned (.int .u32 (tri i j k x : Nat)) ∧ w = w' := by
  have o1 := u32_xor_nat (ror i x) (ror j x) (ror_lt hx _) (ror_lt hx _)
  have o2 := u32_xor_nat (ror i x ^^^ ror j x) (ror k x) (xor_lt32 (ror_lt hx _) (ror_lt hx _)) (ror_lt hx _)
  have HT : Away (tri i j k x = ror i x ^^^ ror j x ^^^ ror k x) := ⟨rfl⟩
  have r1 := rotated_any x i hx hi0 hi
  have r2 := rotated_any x j hx hj0 hj
  have r3 := rotated_any x k hx hk0 hk
  generalize ror i x = y1 at *
  generalize ror j x = y2 at *
  generalize ror k x = y3 at *
  go_enter Tryd.func73, Tryd.ntmps73
  go_wp2_with fail
  refine (r1 _).mono ?_
  rintro _ w' ⟨rfl, rfl⟩
  go_wp2_with fail
  refine (r2 _).mono ?_
  rintro _ w' ⟨rfl, rfl⟩
  go_wp2_with fail
  refine (r3 _).mono ?_
  rintro _ w' ⟨rfl, rfl⟩
  go_wp2
  go_ret
  exact ⟨by rw [HT.out]; rfl, rfl⟩
theorem spread_any (x i j k : Nat) (hx : x < 4294967296) (hi0 : 0 < i) (hi : i < 32) (hj0 : 0 < j) (hj : j < 32) (hk0 : 0 < k) (hk : k < 32) (w : World) :
    Calls Tryd.prog 74 #[.int .u32 (x : Int), .int .i64 (i : Int), .int .i64 (j : Int), .int .i64 (k : Int)] w fun e w' => e = .returned (.int .u32 (spr i j k x : Nat)) ∧ ∃ m, w' = w.drewN m := by
  have o1 := u32_xor_nat (ror i x) (ror j x) (ror_lt hx _) (ror_lt hx _)
  have o2 := u32_xor_nat (ror i x ^^^ ror j x) (x / 2 ^ k) (xor_lt32 (ror_lt hx _) (ror_lt hx _)) (shr_lt32 hx _)
  have HT : Away (spr i j k x = ror i x ^^^ ror j x ^^^ (x / 2 ^ k)) := ⟨rfl⟩
  have r1 := rotated_any x i hx hi0 hi
  have r2 := rotated_any x j hx hj0 hj
  have e2 : (x : Int) / 2 ^ k = ((x / 2 ^ k : Nat) : Int) := by simp
  generalize ror i x = y1 at *
  generalize ror j x = y2 at *
  generalize x / 2 ^ k = y3 at *
  go_enter Tryd.func74, Tryd.ntmps74
  go_wp2_with fail
  go_quiet (first | (go_at_call_of 77 i; exact Calls.quiet_of_same ((r1 _).mono (fun e w' h => ⟨h.1, h.2.symm⟩))) | (go_at_call_of 77 j; exact Calls.quiet_of_same ((r2 _).mono (fun e w' h => ⟨h.1, h.2.symm⟩))))
  go_wp2
  go_ret
  exact ⟨by rw [HT.out]; rfl, nq, rfl⟩
theorem refturn_any (x n : Nat) (hx : x < 4294967296) (hn : n < 32) (w : World) :
    Calls Tryd.prog 60 #[.int .u32 (x : Int), .int .u64 (n : Int)] w fun e w' => e = .returned (.int .u32 (ror n x : Nat)) ∧ w = w' := by
  have ho := ror_eq' x n hx (by omega)
  go_enter Tryd.func60, Tryd.ntmps60
  go_wp2
  go_ret
  exact ⟨rfl, rfl⟩
end Go.Proofs.YtmbaenodibfedaaDoor.S2
