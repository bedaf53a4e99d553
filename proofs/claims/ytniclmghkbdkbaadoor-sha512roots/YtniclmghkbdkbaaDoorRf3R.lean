/-
  Contracts of the document's primes and root of the third hash, over this seat's translation. Conditions: each as it says.
-/
import Derived.Test.YtniclmghkbdkbaaDoorR4N
import Derived.Test.YtniclmghkbdkbaaDoorRt3M
import Derived.Test.YtniclmghkbdkbaaDoorSh3B
import Derived.WalkSmall
namespace Go.Proofs.YtniclmghkbdkbaaDoor.S3
open Go.RowKit
set_option linter.unusedVariables false

/-- None of the first i divides. -/
def noneOf (l : List Nat) (p i : Nat) : Bool := (l.take i).all fun q => p % q != 0
theorem noneOf_zero (l : List Nat) (p : Nat) : noneOf l p 0 = true := rfl
theorem noneOf_succ (l : List Nat) (p i : Nat) (h : i < l.length) : noneOf l p (i + 1) = (noneOf l p i && (p % l.getD i 0 != 0)) := by
  rw [noneOf, take_snoc h, List.all_append]
  simp [noneOf, List.getD, List.getElem?_eq_getElem h]
theorem noneOf_all (l : List Nat) (p i : Nat) (h : l.length ≤ i) : noneOf l p i = l.all fun q => p % q != 0 := by rw [noneOf, List.take_of_length_le h]

set_option maxRecDepth 10000 in
set_option maxHeartbeats 800000 in
theorem primes_any (w : World) : Calls Tryd.prog 26 #[.int .i64 80] w fun e w' => ∃ v', e = .returned v' ∧ SlV w' v' (C .u64 PL) ∧ Below w.heap.size w w' := by
  have hO := own_empty_at w w.heap.size w.heap.size 30 rfl (Nat.le_refl _)
  have hL := (Below.more (Below.refl w.heap.size w) (Nat.le_refl _) (.cells #[] 30)).1
  go_enter Tryd.func26, Tryd.ntmps26
  go_wp2
  generalize w.alloc (.cells #[] 30) = w0 at *
  go_loopw [3, 4] (fun v p wr => ∃ k : Nat, k ≤ 408 ∧ p = .int .u64 ((k + 2 : Nat) : Int) ∧ wr.ownsRow w.heap.size 30 1 v (prs k).length (C .u64 (prs k)) ∧ Below w.heap.size w wr) (fun _ p _ => 500 - (intOf p).toNat)
  case atStart => exact ⟨0, Nat.zero_le _, rfl, hO, hL⟩
  case round =>
    clear hO hL
    obtain ⟨k, hk, rfl, hO, hL⟩ := hrel
    obtain ⟨p, hp⟩ : ∃ p, k + 2 = p := ⟨_, rfl⟩
    have hrg := prs_range k
    have HN : Away (prs (k + 1) = if (prs k).all (fun q => p % q != 0) then prs k ++ [p] else prs k) := ⟨by rw [← hp]; rfl⟩
    have hn63 : k < 408 → (prs k).length < 80 := fun h => by have := prs_len (407 - k) k (by omega); omega
    have hn64 : k = 408 → prs k = PL := fun h => by rw [h, prs_all]
    generalize prs k = L at *
    obtain ⟨n, hn⟩ : ∃ n, L.length = n := ⟨_, rfl⟩
    rw [hn] at hO hn63
    rw [hp]
    have hs := SlV.ofOwn hO
    obtain ⟨a, cap, rfl, q1, q2⟩ := hs.shp hn
    have HP := Away.mk hp
    have hpm : p ≤ 500 := by omega
    by_cases hk310 : k < 408
    · have hn6 := hn63 hk310
      have hni : (n : Int) < 80 := by omega
      have HO := Away.mk hO
      have HL := Away.mk hL
      have hcs : ∀ i, i < n → ∃ g off, a = some ⟨g, off, none⟩ ∧ wr.cell? ⟨g, off + i, none⟩ = some (.int .u64 (L.getD i 0 : Nat)) := fun i hi => by
        obtain ⟨b, off, rfl, _, hcx⟩ := hs.cells (by rw [C_length]; omega)
        exact ⟨b, off, rfl, hcx i _ (C_get .u64 (by omega))⟩
      have HC := Away.mk hcs
      clear hO hL hs hcs hp hn63 hn64
      go_wp2
      go_loop [5, 6] (fun b iv => ∃ i : Nat, i ≤ n ∧ iv = .int .i64 i ∧ b = .bool (noneOf L p i)) (fun _ iv => n - (intOf iv).toNat)
      case atStart => exact ⟨0, Nat.zero_le _, rfl, rfl⟩
      case round =>
        obtain ⟨i, hi, rfl, rfl⟩ := hrel
        by_cases hin : i < n
        · have hini : (i : Int) < (n : Int) := by omega
          have HS := Away.mk (noneOf_succ L p i (by omega))
          obtain ⟨g, off, rfl, hcell⟩ := HC.out i hin
          have hq := hrg (L.getD i 0) (by simp only [List.getD, List.getElem?_eq_getElem (show i < L.length by omega), Option.getD_some]; exact List.getElem_mem _)
          generalize L.getD i 0 = q at *
          obtain ⟨m, hm⟩ : ∃ m, p % q = m := ⟨_, rfl⟩
          have hmi : (p : Int) % (q : Int) = (m : Int) := by rw [← hm]; simp
          have hq0 : ¬ (q : Int) = 0 := by omega
          rw [hm] at HS
          have HM := Away.mk hm
          clear hm
          generalize noneOf L p i = B at *
          cases B with
          | false =>
            go_wp2
            go_round
            case rel => exact ⟨i + 1, by omega, by go_num, by rw [HS.out]; rfl⟩
            case measure => simp [intOf]; omega
          | true =>
            by_cases hm0 : m = 0
            · subst hm0
              go_wp2
              go_round
              case rel => exact ⟨i + 1, by omega, by go_num, by rw [HS.out]; rfl⟩
              case measure => simp [intOf]; omega
            · have hmb : (((m : Int) == 0) = false) := by simp; omega
              have hmn : ¬ (m : Int) = 0 := by omega
              go_wp2
              go_round
              case rel => exact ⟨i + 1, by omega, by go_num, by rw [HS.out]; show Value.bool (!((m : Int) == 0)) = Value.bool (true && !(m == 0)); rw [hmb, show (m == 0) = false by simpa using hm0]; rfl⟩
              case measure => simp [intOf]; omega
        · have hini : ¬ (i : Int) < (n : Int) := by omega
          have HA := Away.mk (noneOf_all L p i (by omega))
          rw [← HA.out] at HN
          generalize noneOf L p i = B at *
          have hpi : ((k + 1 + 2 : Nat) : Int) = (p : Int) + 1 := by have := HP.out; omega
          cases B with
          | false =>
            go_wp2
            go_roundw
            case rel => exact ⟨k + 1, by omega, by rw [hpi], by rw [HN.out, if_neg (by decide), hn]; exact HO.out, HL.out⟩
            case measure => simp [intOf]; omega
          | true =>
            go_wp2_with (at_builtin; refine wpList_append_sl rfl (.tmp 31) (.tmp 33) 46 rfl w.heap.size 30 _ 8 Tryd.underlying46 inf64 rfl _ n _ rfl (HO.out.alloc _) _ [.int .u64 (p : Int)] rfl (SlV_one _ _ _) (by simp [Value.oneCell']) (by simp; unfold maxLen; omega) (by simp; omega) (by have := HL.out.size; simp; omega) ?_)
            intro v3 w3 ho3 hg3
            have hb3 : Below w.heap.size w w3 := (HL.out.alloc HL.out.size _).grown hg3 (by have := HL.out.size; simp; omega) (fun k hk => (HO.out.lt k hk).1)
            have ho3 : w3.ownsRow w.heap.size 30 1 v3 (prs (k + 1)).length (C .u64 (prs (k + 1))) := by
              rw [HN.out, if_pos trivial, List.length_append, hn, C_append]
              exact ho3
            have G1 := Away.mk ho3
            have G2 := Away.mk hb3
            clear HO HL hg3 ho3 hb3
            go_wp2
            go_roundw
            case rel => exact ⟨k + 1, by omega, by rw [hpi], G1.out, G2.out⟩
            case measure => simp [intOf]; omega
    · have hk3 : k = 408 := by omega
      have hLP := hn64 hk3
      subst hLP
      have hn64' : ¬ (n : Int) < 80 := by have : PL.length = 80 := PL_length; omega
      have HS := Away.mk hs
      have HL := Away.mk hL
      clear hO hL hs hp hn63 hn64
      go_wp2
      go_ret
      exact ⟨_, rfl, HS.out, HL.out⟩

theorem cmpI_le (a b : Nat) : (cmpI a b ≤ 0) ↔ a ≤ b := by
  unfold cmpI
  split
  · constructor <;> intro <;> omega
  · split
    · constructor <;> intro <;> omega
    · constructor <;> intro <;> omega

set_option maxRecDepth 10000 in
set_option maxHeartbeats 1600000 in
theorem root_any (p : Nat) (c : Bool) (hp : p ≤ 1000) (hr : 281474976710656 ≤ rtP c p) (w : World) :
    Calls Tryd.prog 27 #[.int .u64 (p : Int), .bool c] w fun e w' => e = .returned (.int .u64 (rtP c p % 18446744073709551616 : Nat)) ∧ Below w.heap.size w w' := by
  have HR : Away (rtP c p = rt c (rtM c p) 69) := ⟨rfl⟩
  have hMb : rtM c p ≤ 2 ^ 202 := by
    have h1 : p ≤ 2 ^ 10 := by omega
    have h2 : 2 ^ (if c then 192 else 128) ≤ 2 ^ 192 := Nat.pow_le_pow_right (by decide) (by cases c <;> decide)
    exact Nat.le_trans (Nat.mul_le_mul h1 h2) (by decide)
  have hMB : rtM c p < BN := lt_BN hMb (by decide)
  have hpB : p < BN := lt_BN (k := 10) (by omega) (by decide)
  have HMe : Away (rtM c p = p * 2 ^ (if c then 192 else 128)) := ⟨rfl⟩
  generalize rtP c p = R at *
  generalize rtM c p = M at *
  go_enter Tryd.func27, Tryd.ntmps27
  go_upto_if 15 with fail
  go_cut [5] (fun v5 wc => wc = w ∧ v5 = .int .i64 ((if c then 192 else 128 : Nat) : Int))
  case first =>
    cases c with
    | true =>
      go_wp2
      go_meet
      case rel => exact ⟨rfl, rfl⟩
    | false =>
      go_wp2
      go_meet
      case rel => exact ⟨rfl, rfl⟩
  case rest =>
    obtain ⟨rfl, rfl⟩ := hcut
    obtain ⟨B, hB⟩ : ∃ B : Nat, (if c = true then 192 else 128) = B := ⟨_, rfl⟩
    have hB2 : B ≤ 16384 := by rw [← hB]; cases c <;> decide
    rw [hB] at HMe
    rw [hB]
    clear hB
    go_wp2_with fail
    refine (reffrom_any p (by omega) _).mono ?_
    rintro _ w1 ⟨v1, rfl, hr1, hb1⟩
    go_wp2_with fail
    refine (rshl_r _ hr1 hpB hB2).mono ?_
    rintro _ w2 ⟨v2, rfl, hr2, hb2⟩
    rw [← HMe.out] at hr2
    have hb2 := hb1.trans (hb2.mono hb1.size)
    clear hr1 hb1
    have hL := (Below.more hb2 hb2.size (.cells #[] 60)).1
    have hM := hr2.below ((Below.refl w2.heap.size w2).alloc (Nat.le_refl _) (.cells #[] 60))
    have hX := RA.none (w2.alloc (.cells #[] 60)) ⟨w2.heap.size, 0, none⟩
    clear hb2 hr2
    go_wp2
    generalize w2.alloc (.cells #[] 60) = w3 at *
    go_loopw [8, 9] (fun vx iv wr => ∃ n : Nat, n ≤ 69 ∧ iv = .int .i64 (68 - (n : Int)) ∧ RA wr vx (rt c M n) ∧ RA wr v2 M ∧ Below wc.heap.size wc wr) (fun _ iv _ => ((intOf iv) + 1).toNat)
    case atStart => exact ⟨0, Nat.zero_le _, rfl, hX, hM, hL⟩
    case round =>
      clear hX hM hL
      obtain ⟨n, hn, rfl, hX, hM, hL⟩ := hrel
      have hle := rt_le c M n hn
      by_cases hn69 : n < 69
      · obtain ⟨j, hj, hj'⟩ : ∃ j : Nat, (68 : Int) - (n : Int) = (j : Int) ∧ 68 - n = j := ⟨68 - n, by omega, rfl⟩
        rw [hj]
        have HS : Away (rt c M (n + 1) = rtS c M n (rt c M n)) := ⟨rfl⟩
        generalize rt c M n = x at *
        obtain ⟨y, hy⟩ : ∃ y, x + 2 ^ j = y := ⟨_, rfl⟩
        have HS2 : Away (rt c M (n + 1) = if pw c y ≤ M then y else x) := ⟨by rw [HS.out, rtS, hj', hy]⟩
        have hjp : 2 ^ j ≤ 2 ^ (69 - n) := Nat.pow_le_pow_right (by decide) (by omega)
        have hyb : y ≤ 2 ^ 69 := by omega
        have hxB : x < BN := lt_BN (k := 69) (Nat.le_trans (Nat.le_add_right _ _) hle) (by decide)
        have hyB : y < BN := lt_BN hyb (by decide)
        have hyyB : y * y < BN := lt_BN (k := 138) (Nat.le_trans (Nat.mul_le_mul hyb hyb) (by decide)) (by decide)
        have hyyyB : y * y * y < BN := lt_BN (k := 207) (Nat.le_trans (Nat.mul_le_mul (Nat.mul_le_mul hyb hyb) hyb) (by decide)) (by decide)
        have hjB : 2 ^ j < BN := lt_BN (k := 69) (Nat.pow_le_pow_right (by decide) (by omega)) (by decide)
        have HJ : Away ((68 : Int) - ((n + 1 : Nat) : Int) = (j : Int) - 1) := ⟨by omega⟩
        have hone : RA (wr.alloc (.cells #[.int .u32 1] 60)) (.slice (some ⟨wr.heap.size, 0, none⟩) 1 1) 1 := ⟨[1], ⟨rfl, by intro x hx; simp at hx; subst hx; decide, fun _ => by decide⟩, SlV_one _ _ _⟩
        have hX := hX.below ((Below.refl wr.heap.size wr).alloc (Nat.le_refl _) (.cells #[.int .u32 1] 60))
        have hM := hM.below ((Below.refl wr.heap.size wr).alloc (Nat.le_refl _) (.cells #[.int .u32 1] 60))
        have hL := (Below.more hL hL.size (.cells #[.int .u32 1] 60)).1
        have hj69 : j ≤ 16384 := by omega
        have hji : (j : Int) ≤ 68 := by omega
        have hjw : IntKind.i64.wrap ((j : Int) - 1) = (j : Int) - 1 := IntWalk.i64_in _ ⟨by omega, by omega⟩
        clear hle HS hjp hyb hj hj'
        go_wp2_with fail
        refine (rshl_r _ hone (lt_BN (k := 1) (by decide) (by decide)) hj69).mono ?_
        rintro _ w4 ⟨v4, rfl, hr4, hb4⟩
        rw [Nat.one_mul] at hr4
        have hX := hX.below hb4
        have hM := hM.below hb4
        have hL := hL.trans (hb4.mono hL.size)
        clear hb4 hone
        go_wp2_with fail
        refine (radd_r _ hX hr4 hxB hjB).mono ?_
        rintro _ w5 ⟨v5, rfl, hY, hb5⟩
        rw [hy] at hY
        have hX := hX.below hb5
        have hM := hM.below hb5
        have hL := hL.trans (hb5.mono hL.size)
        clear hb5 hr4 hy
        go_wp2_with fail
        refine (rmul_r _ hY hY hyB hyB).mono ?_
        rintro _ w6 ⟨v6, rfl, hZ, hb6⟩
        have hX := hX.below hb6
        have hY := hY.below hb6
        have hM := hM.below hb6
        have hL := hL.trans (hb6.mono hL.size)
        clear hb6
        cases c with
        | true =>
          rw [show pw true y = y * y * y from rfl] at HS2
          go_wp2_with fail
          refine (rmul_r _ hZ hY hyyB hyB).mono ?_
          rintro _ w8 ⟨v8, rfl, hZ, hb8⟩
          have hX := hX.below hb8
          have hY := hY.below hb8
          have hM := hM.below hb8
          have hL := hL.trans (hb8.mono hL.size)
          clear hb8
          generalize y * y * y = Z at *
          go_wp2_with fail
          refine (rcmp_r _ hZ hM hyyyB hMB).mono ?_
          rintro _ w7 ⟨rfl, hb7⟩
          have hX := hX.below hb7
          have hY := hY.below hb7
          have hM := hM.below hb7
          have hL := hL.trans (hb7.mono hL.size)
          clear hb7
          by_cases hc : Z ≤ M
          · have hci : cmpI Z M ≤ 0 := (cmpI_le _ _).2 hc
            rw [if_pos hc] at HS2
            generalize cmpI Z M = ci at *
            go_wp2
            go_roundw
            case rel => exact ⟨n + 1, by omega, by rw [HJ.out], by rw [HS2.out]; exact hY, hM, hL⟩
            case measure => simp [intOf]
          · have hci : ¬ cmpI Z M ≤ 0 := fun h => hc ((cmpI_le _ _).1 h)
            rw [if_neg hc] at HS2
            generalize cmpI Z M = ci at *
            go_wp2
            go_roundw
            case rel => exact ⟨n + 1, by omega, by rw [HJ.out], by rw [HS2.out]; exact hX, hM, hL⟩
            case measure => simp [intOf]
        | false =>
          rw [show pw false y = y * y from rfl] at HS2
          generalize y * y * y = ZZ at *
          generalize y * y = Z at *
          go_wp2_with fail
          refine (rcmp_r _ hZ hM hyyB hMB).mono ?_
          rintro _ w7 ⟨rfl, hb7⟩
          have hX := hX.below hb7
          have hY := hY.below hb7
          have hM := hM.below hb7
          have hL := hL.trans (hb7.mono hL.size)
          clear hb7
          by_cases hc : Z ≤ M
          · have hci : cmpI Z M ≤ 0 := (cmpI_le _ _).2 hc
            rw [if_pos hc] at HS2
            generalize cmpI Z M = ci at *
            go_wp2
            go_roundw
            case rel => exact ⟨n + 1, by omega, by rw [HJ.out], by rw [HS2.out]; exact hY, hM, hL⟩
            case measure => simp [intOf]
          · have hci : ¬ cmpI Z M ≤ 0 := fun h => hc ((cmpI_le _ _).1 h)
            rw [if_neg hc] at HS2
            generalize cmpI Z M = ci at *
            go_wp2
            go_roundw
            case rel => exact ⟨n + 1, by omega, by rw [HJ.out], by rw [HS2.out]; exact hX, hM, hL⟩
            case measure => simp [intOf]
      · have hn' : n = 69 := by omega
        subst hn'
        rw [← HR.out] at hX hle
        have hRB : R < BN := lt_BN (k := 69) (Nat.le_trans (Nat.le_add_right _ _) hle) (by decide)
        clear hle
        go_wp2_with fail
        refine (rdig_r _ hX hRB).mono ?_
        rintro _ w4 ⟨v4, es, rfl, hI, hel, hes, hb4⟩
        have hL := hL.trans (hb4.mono hL.size)
        have h4 : 4 ≤ es.length := by
          by_cases h : es.length ≤ 3
          · have := (hI.len (by decide) 3).1 h
            rw [show W16 ^ 3 = 281474976710656 from rfl] at this
            omega
          · omega
        obtain ⟨hsum, hlo⟩ := four_digits hI h4
        obtain ⟨m, hm⟩ : ∃ m, es.length = m := ⟨_, rfl⟩
        obtain ⟨a, cap, rfl, q1, q2⟩ := hes.shp hm
        obtain ⟨g, off, rfl, hbl, hcx⟩ := hes.cells (by rw [C_length]; omega)
        have hc : ∀ i, i < 4 → w4.cell? ⟨g, off + i, none⟩ = some (.int .u64 (es.getD i 0 : Nat)) := fun i hi => hcx i _ (C_get .u64 (by omega))
        have c0 := hc 0 (by decide)
        have c1 := hc 1 (by decide)
        have c2 := hc 2 (by decide)
        have c3 := hc 3 (by decide)
        have l0 := hlo 0
        have l1 := hlo 1
        have l2 := hlo 2
        have l3 := hlo 3
        generalize es.getD 0 0 = d0 at *
        generalize es.getD 1 0 = d1 at *
        generalize es.getD 2 0 = d2 at *
        generalize es.getD 3 0 = d3 at *
        have hmi : (3 : Int) < (m : Int) := by omega
        have hm0 : (0 : Int) < (m : Int) := by omega
        have hm1 : (1 : Int) < (m : Int) := by omega
        have hm2 : (2 : Int) < (m : Int) := by omega
        obtain ⟨e1, he1, e2, he2, e3, he3, s1, hs1, s2, hs2, hs3⟩ : ∃ e1 : Nat, IntKind.u64.wrap ((d1 : Int) * 65536) = (e1 : Int) ∧ ∃ e2 : Nat, IntKind.u64.wrap ((d2 : Int) * 4294967296) = (e2 : Int) ∧ ∃ e3 : Nat, IntKind.u64.wrap ((d3 : Int) * 281474976710656) = (e3 : Int) ∧ ∃ s1 : Nat, IntKind.u64.wrap ((d0 : Int) + (e1 : Int)) = (s1 : Int) ∧ ∃ s2 : Nat, IntKind.u64.wrap ((s1 : Int) + (e2 : Int)) = (s2 : Int) ∧ IntKind.u64.wrap ((s2 : Int) + (e3 : Int)) = ((R % 18446744073709551616 : Nat) : Int) := by
          refine ⟨d1 * 65536, ?_, d2 * 4294967296, ?_, d3 * 281474976710656, ?_, d0 + d1 * 65536, ?_, d0 + d1 * 65536 + d2 * 4294967296, ?_, ?_⟩ <;> rw [wrapU] <;> omega
        obtain ⟨RR, hRR⟩ : ∃ RR, R % 18446744073709551616 = RR := ⟨_, rfl⟩
        rw [hRR] at hs3
        have HRR := Away.mk hRR
        clear hRR
        clear hsum hc hcx hlo
        rw [Nat.add_zero] at c0
        go_wp2_with fail
        go_quiet (fail)
        go_wp2
        go_ret
        exact ⟨by rw [HRR.out]; rfl, below_drewN hL nq⟩
end Go.Proofs.YtniclmghkbdkbaaDoor.S3
