/-
  Contracts of the third hash's small functions (rotations, their sums, the steps' numbers), the program's and the document's, over this seat's translation. Conditions: each as it says.
-/
import Derived.Test.YtmbaenodibfedaaDoorSh3M
import Derived.Test.YtmbaenodibfedaaDoorKit6
import Derived.Test.YtmbaenodibfedaaDoorRows
import Derived.Deep.RegionHeld3
import Derived.Deep.DeepCutAuto
import Derived.Deep.Cut
namespace Go.Proofs.YtmbaenodibfedaaDoor.S3
open Go.RowKit
set_option linter.unusedVariables false

theorem rotl_any (x n : Nat) (hx : x < 18446744073709551616) (h0 : 0 < n) (hn : n < 64) (w : World) :
    Calls Tryd.prog 79 #[.int .u64 (x : Int), .int .i64 (-(n : Int))] w fun e w' => e = .returned (.int .u64 (ror n x : Nat)) ∧ w = w' := by
  have ho := ror_eq x n hx (by omega)
  rw [← IntKind.wrap_u64] at ho
  obtain ⟨k, hk⟩ : ∃ k, 64 - n = k := ⟨_, rfl⟩
  have hw : IntKind.u64.wrap (-(n : Int)) = ((18446744073709551616 - n : Nat) : Int) := by simp [IntKind.wrap, IntKind.bits, IntKind.signed]; omega
  have ha : bits .and .u64 ((18446744073709551616 - n : Nat) : Int) 63 = (k : Int) := by
    have := u64_and_nat (18446744073709551616 - n) 63 (by omega) (by decide)
    rw [show ((63 : Nat) : Int) = 63 from rfl] at this
    rw [this, show (63 : Nat) = 2 ^ 6 - 1 from rfl, Nat.and_two_pow_sub_one_eq_mod]
    omega
  have hkn : 64 - k = n := by omega
  have hkn' : (64 : Int) - (k : Int) = (n : Int) := by omega
  rw [hk] at ho
  generalize 18446744073709551616 - n = m at *
  clear hk
  go_enter Tryd.func79, Tryd.ntmps79
  go_wp2
  go_ret
  exact ⟨rfl, rfl⟩
theorem rotated_any (x n : Nat) (hx : x < 18446744073709551616) (h0 : 0 < n) (hn : n < 64) (w : World) :
    Calls Tryd.prog 78 #[.int .u64 (x : Int), .int .i64 (n : Int)] w fun e w' => e = .returned (.int .u64 (ror n x : Nat)) ∧ w = w' := by
  go_enter Tryd.func78, Tryd.ntmps78
  go_wp2_with fail
  refine (rotl_any x n hx h0 hn _).mono ?_
  rintro _ w' ⟨rfl, rfl⟩
  go_wp2
  go_ret
  exact ⟨rfl, rfl⟩
theorem turned_any (x i j k : Nat) (hx : x < 18446744073709551616) (hi0 : 0 < i) (hi : i < 64) (hj0 : 0 < j) (hj : j < 64) (hk0 : 0 < k) (hk : k < 64) (w : World) :
    Calls Tryd.prog 75 #[.int .u64 (x : Int), .int .i64 (i : Int), .int .i64 (j : Int), .int .i64 (k : Int)] w fun e w' => e = .returned (.int .u64 (tri i j k x : Nat)) ∧ w = w' := by
  have o1 := u64_xor_nat (ror i x) (ror j x) (ror_lt hx _) (ror_lt hx _)
  have o2 := u64_xor_nat (ror i x ^^^ ror j x) (ror k x) (xor_lt64 (ror_lt hx _) (ror_lt hx _)) (ror_lt hx _)
  have HT : Away (tri i j k x = ror i x ^^^ ror j x ^^^ ror k x) := ⟨rfl⟩
  have r1 := rotated_any x i hx hi0 hi
  have r2 := rotated_any x j hx hj0 hj
  have r3 := rotated_any x k hx hk0 hk
  generalize ror i x = y1 at *
  generalize ror j x = y2 at *
  generalize ror k x = y3 at *
  go_enter Tryd.func75, Tryd.ntmps75
  go_wp2_with fail
  refine (r1 _).mono ?_
  rintro _ w' ⟨rfl, rfl⟩
  go_wp2_with fail
  refine (r2 _).mono ?_
  rintro _ w' ⟨rfl, rfl⟩
  go_wp2_with fail
  refine (r3 _).mono ?_
  rintro _ w' ⟨rfl, rfl⟩
  go_wp2
  go_ret
  exact ⟨by rw [HT.out]; rfl, rfl⟩
theorem spread_any (x i j k : Nat) (hx : x < 18446744073709551616) (hi0 : 0 < i) (hi : i < 64) (hj0 : 0 < j) (hj : j < 64) (hk0 : 0 < k) (hk : k < 64) (w : World) :
    Calls Tryd.prog 76 #[.int .u64 (x : Int), .int .i64 (i : Int), .int .i64 (j : Int), .int .i64 (k : Int)] w fun e w' => e = .returned (.int .u64 (spr i j k x : Nat)) ∧ ∃ m, w' = w.drewN m := by
  have o1 := u64_xor_nat (ror i x) (ror j x) (ror_lt hx _) (ror_lt hx _)
  have o2 := u64_xor_nat (ror i x ^^^ ror j x) (x / 2 ^ k) (xor_lt64 (ror_lt hx _) (ror_lt hx _)) (shr_lt64 hx _)
  have HT : Away (spr i j k x = ror i x ^^^ ror j x ^^^ (x / 2 ^ k)) := ⟨rfl⟩
  have r1 := rotated_any x i hx hi0 hi
  have r2 := rotated_any x j hx hj0 hj
  have e2 : (x : Int) / 2 ^ k = ((x / 2 ^ k : Nat) : Int) := by simp
  generalize ror i x = y1 at *
  generalize ror j x = y2 at *
  generalize x / 2 ^ k = y3 at *
  go_enter Tryd.func76, Tryd.ntmps76
  go_wp2_with fail
  go_quiet (first | (go_at_call_of 78 i; exact Calls.quiet_of_same ((r1 _).mono (fun e w' h => ⟨h.1, h.2.symm⟩))) | (go_at_call_of 78 j; exact Calls.quiet_of_same ((r2 _).mono (fun e w' h => ⟨h.1, h.2.symm⟩))))
  go_wp2
  go_ret
  exact ⟨by rw [HT.out]; rfl, nq, rfl⟩
theorem refturn_any (x n : Nat) (hx : x < 18446744073709551616) (hn : n < 64) (w : World) :
    Calls Tryd.prog 62 #[.int .u64 (x : Int), .int .u64 (n : Int)] w fun e w' => e = .returned (.int .u64 (ror n x : Nat)) ∧ w = w' := by
  have ho := ror_eq' x n hx (by omega)
  rw [← IntKind.wrap_u64] at ho
  go_enter Tryd.func62, Tryd.ntmps62
  go_wp2
  go_ret
  exact ⟨rfl, rfl⟩
end Go.Proofs.YtmbaenodibfedaaDoor.S3
