/-
  Contracts of shifted and More, and of the document's More, over this seat's translation. Conditions: each as it says.
-/
import Derived.Test.YtdfaobpdifphoaaCrcM
import Derived.Test.YtdfaobpdifphoaaRows
namespace Go.Proofs.Ytdfaobpdifphoaa
open Go.RowKit
set_option linter.unusedVariables false

theorem xor_div (d : Nat) (h : d < 16777216) : bits .xor .u32 ((d : Int) * 2) 25578747 = (((2 * d) ^^^ 25578747 : Nat) : Int) := by
  rw [show (d : Int) * 2 = ((2 * d : Nat) : Int) by omega]
  exact u32_xor_nat (2 * d) 25578747 (by omega) (by decide)
theorem xor_byte (c x : Nat) (h : c < 16777216) (hx : x < 256) : bits .xor .u32 (c : Int) ((x : Int) * 65536) = ((c ^^^ x * 65536 : Nat) : Int) := by
  rw [show (x : Int) * 65536 = ((x * 65536 : Nat) : Int) by omega]
  exact u32_xor_nat c (x * 65536) (by omega) (by omega)
theorem and_byte (c : Nat) (h : c < 4294967296) : bits .and .u32 (c : Int) 16777215 = ((c % 16777216 : Nat) : Int) := by
  rw [← and_low]
  exact u32_and_nat c 16777215 h (by decide)
theorem stp_small {d : Nat} (h : 2 * d < 16777216) : stp d = 2 * d := by rw [stp, if_pos h]
theorem stp_great {d : Nat} (h : ¬ 2 * d < 16777216) : stp d = (2 * d) ^^^ 25578747 := by rw [stp, if_neg h]

theorem shifted_any (c : Nat) (hc : c < 16777216) (w : World) :
    Calls Try.prog 16 #[.int .u32 c] w fun e w' => e = .returned (.int .u32 (stps 8 c : Nat)) ∧ w = w' := by
  go_enter Try.func16, Try.ntmps16
  go_wp2
  go_loop [0, 3] (fun v i => ∃ k : Nat, k ≤ 8 ∧ i = .int .i64 k ∧ v = .int .u32 (stps k c : Nat)) (fun _ i => 8 - (intOf i).toNat)
  case atStart => exact ⟨0, Nat.zero_le _, rfl, rfl⟩
  case round =>
    obtain ⟨k, hk, rfl, rfl⟩ := hrel
    by_cases hlt : k < 8
    · have hd := stps_lt (k := k) hc
      have HS : Away (stps (k + 1) c = stp (stps k c)) := ⟨rfl⟩
      generalize stps k c = d at *
      by_cases h2 : 2 * d < 16777216
      · go_wp2
        go_round
        case rel => exact ⟨k + 1, by omega, by go_num, by rw [HS.out, stp_small h2]; congr 1; omega⟩
        case measure => simp [intOf]; omega
      · have h3 := stp_great h2
        have HS := Away.mk (HS.out.trans h3)
        have ho := xor_div d hd
        clear h3
        generalize (2 * d) ^^^ 25578747 = e at *
        go_wp2
        go_round
        case rel => exact ⟨k + 1, by omega, by go_num, by rw [HS.out]⟩
        case measure => simp [intOf]; omega
    · obtain rfl : k = 8 := by omega
      go_wp2
      go_ret
      exact ⟨rfl, rfl⟩

theorem more_any (c : Nat) (hc : c < 4294967296) (v : Value) (xs : List Int) (w : World) (hs : SlV w v (U xs)) (hb : Byt xs) :
    Calls Try.prog 10 #[.int .u32 c, v] w fun e w' => e = .returned (.int .u32 (go (c % 16777216) (nats xs) : Nat)) ∧ w = w' := by
  obtain ⟨a, cap, hv, hcl, hcm⟩ := hs.shapeU rfl
  subst hv
  have hmx : (xs.length : Int) ≤ 9223372036854775807 := by unfold maxLen at hcm; omega
  have hand := and_byte c hc
  have hlo : c % 16777216 < 16777216 := Nat.mod_lt _ (by decide)
  generalize c % 16777216 = c0 at *
  go_enter Try.func10, Try.ntmps10
  go_wp2
  go_loop [0, 11] (fun v i => ∃ k : Nat, k ≤ xs.length ∧ i = .int .i64 k ∧ v = .int .u32 (acc c0 xs k : Nat)) (fun _ i => xs.length - (intOf i).toNat)
  case atStart => exact ⟨0, Nat.zero_le _, rfl, rfl⟩
  case round =>
    obtain ⟨k, hk, rfl, rfl⟩ := hrel
    by_cases hlt : k < xs.length
    · have hd := acc_lt hlo hb k
      have HS := Away.mk (acc_succ (c := c0) hlt)
      obtain ⟨b, off, rfl, hbl, hcell⟩ := hs.cells (by rw [U_length]; omega)
      have hck := hcell k _ (U_getD hlt)
      have hx := getD_byt hb k
      obtain ⟨x, hxe⟩ := Int.eq_ofNat_of_zero_le hx.1
      rw [hxe] at hck hx HS
      clear hxe hcell hs hand
      generalize acc c0 xs k = d at *
      have hx' : x < 256 := by omega
      have ho := xor_byte d x hd hx'
      have hm := mix_lt hd hx'
      have HB : Away (bst d x = stps 8 (d ^^^ x * 65536)) := ⟨rfl⟩
      generalize d ^^^ x * 65536 = e at *
      go_wp2_with fail
      refine (shifted_any e hm _).mono ?_
      rintro _ w' ⟨rfl, rfl⟩
      go_wp2
      go_round
      case rel => exact ⟨k + 1, by omega, by go_num, by rw [HS.out, Int.toNat_natCast, HB.out]⟩
      case measure => simp [intOf]; omega
    · obtain rfl : k = xs.length := by omega
      rw [acc_all]
      clear hand
      go_wp2
      go_ret
      exact ⟨rfl, rfl⟩
theorem sum_any (v : Value) (xs : List Int) (w : World) (hs : SlV w v (U xs)) (hb : Byt xs) :
    Calls Try.prog 8 #[v] w fun e w' => e = .returned (.int .u32 (go 11994318 (nats xs) : Nat)) ∧ w = w' := by
  go_enter Try.func8, Try.ntmps8
  go_wp2_with fail
  refine (more_any 11994318 (by decide) v xs w hs hb).mono ?_
  rintro _ w' ⟨rfl, rfl⟩
  go_wp2
  go_ret
  exact ⟨rfl, rfl⟩

set_option maxHeartbeats 400000 in
theorem refmore_any (c : Nat) (hc : c < 4294967296) (v : Value) (xs : List Int) (w : World) (hs : SlV w v (U xs)) (hb : Byt xs) :
    Calls Try.prog 11 #[.int .u32 c, v] w fun e w' => e = .returned (.int .u32 (go (c % 16777216) (nats xs) : Nat)) ∧ w = w' := by
  obtain ⟨a, cap, hv, hcl, hcm⟩ := hs.shapeU rfl
  subst hv
  have hmx : (xs.length : Int) ≤ 9223372036854775807 := by unfold maxLen at hcm; omega
  have hmod : (c : Int) % 16777216 = ((c % 16777216 : Nat) : Int) := by omega
  have hlo : c % 16777216 < 16777216 := Nat.mod_lt _ (by decide)
  generalize c % 16777216 = c0 at *
  have HM := Away.mk hmod
  clear hmod
  go_enter Try.func11, Try.ntmps11
  go_wp2
  rw [HM.out]
  clear HM
  go_loop [0, 5] (fun v i => ∃ k : Nat, k ≤ xs.length ∧ i = .int .i64 k ∧ v = .int .u32 (acc c0 xs k : Nat)) (fun _ i => xs.length - (intOf i).toNat)
  case atStart => exact ⟨0, Nat.zero_le _, rfl, rfl⟩
  case round =>
    obtain ⟨k, hk, rfl, rfl⟩ := hrel
    by_cases hlt : k < xs.length
    · have hd := acc_lt hlo hb k
      have HS := Away.mk (acc_succ (c := c0) hlt)
      obtain ⟨b, off, rfl, hbl, hcell⟩ := hs.cells (by rw [U_length]; omega)
      have hck := hcell k _ (U_getD hlt)
      have hx := getD_byt hb k
      obtain ⟨x, hxe⟩ := Int.eq_ofNat_of_zero_le hx.1
      rw [hxe] at hck hx HS
      clear hxe hcell hs
      generalize acc c0 xs k = d at *
      have hx' : x < 256 := by omega
      have ho := xor_byte d x hd hx'
      have hm := mix_lt hd hx'
      have HB : Away (bst d x = stps 8 (d ^^^ x * 65536)) := ⟨rfl⟩
      generalize d ^^^ x * 65536 = e at *
      go_wp2
      clear ho
      generalize (x : Int) * 65536 = y
      go_loop [0, 6] (fun v i => ∃ j : Nat, j ≤ 8 ∧ i = .int .i64 j ∧ v = .int .u32 (stps j e : Nat)) (fun _ i => 8 - (intOf i).toNat)
      case atStart => exact ⟨0, Nat.zero_le _, rfl, rfl⟩
      case round =>
        obtain ⟨j, hj, rfl, rfl⟩ := hrel
        by_cases hlj : j < 8
        · have hd' := stps_lt (k := j) hm
          have HT : Away (stps (j + 1) e = stp (stps j e)) := ⟨rfl⟩
          generalize stps j e = f at *
          by_cases h2 : 2 * f < 16777216
          · have d2 : decide ((16777216 : Int) ≤ (f : Int) * 2) = false := decide_eq_false (by omega)
            go_wp2
            go_round
            case rel => exact ⟨j + 1, by omega, by go_num, by rw [HT.out, stp_small h2]; congr 1; omega⟩
            case measure => simp [intOf]; omega
          · have h3 := stp_great h2
            have HT := Away.mk (HT.out.trans h3)
            have ho := xor_div f hd'
            have d2 : decide ((16777216 : Int) ≤ (f : Int) * 2) = true := decide_eq_true (by omega)
            clear h3
            generalize (2 * f) ^^^ 25578747 = g at *
            go_wp2
            go_round
            case rel => exact ⟨j + 1, by omega, by go_num, by rw [HT.out]⟩
            case measure => simp [intOf]; omega
        · obtain rfl : j = 8 := by omega
          go_wp2
          go_round
          case rel => exact ⟨k + 1, by omega, by go_num, by rw [HS.out, Int.toNat_natCast, HB.out]⟩
          case measure => simp [intOf]; omega
    · obtain rfl : k = xs.length := by omega
      rw [acc_all]
      go_wp2
      go_ret
      exact ⟨rfl, rfl⟩
theorem refsum_any (v : Value) (xs : List Int) (w : World) (hs : SlV w v (U xs)) (hb : Byt xs) :
    Calls Try.prog 9 #[v] w fun e w' => e = .returned (.int .u32 (go 11994318 (nats xs) : Nat)) ∧ w = w' := by
  go_enter Try.func9, Try.ntmps9
  go_wp2_with fail
  refine (refmore_any 11994318 (by decide) v xs w hs hb).mono ?_
  rintro _ w' ⟨rfl, rfl⟩
  go_wp2
  go_ret
  exact ⟨rfl, rfl⟩
end Go.Proofs.Ytdfaobpdifphoaa
