/-
  The contract of the document's Padded at blocks of 64 bytes, over this seat's translation. Conditions: at most 2^40 bytes.
-/
import Derived.Test.YtmbaenodibfedaaDoorSh2N
namespace Go.Proofs.YtmbaenodibfedaaDoor.S2
open Go.RowKit
open S1 (or_lt32 and_lt32 xor_lt32 shr_lt32 mod_lt32 wd wd_lt be be8 zs1 pad1 out4 not32)
set_option linter.unusedVariables false
set_option maxRecDepth 10000

/-- The noughts that are wanted. -/
def nz (n : Nat) : Nat := (119 - n % 64) % 64
theorem nz_stop {n j : Nat} (h : j ≤ nz n) (hs : (n + 1 + j) % 64 = 56) : j = nz n := by unfold nz at *; omega
theorem nz_go {n j : Nat} (h : j ≤ nz n) (hs : (n + 1 + j) % 64 ≠ 56) : j < nz n := by unfold nz at *; omega
theorem be8_next (c i : Nat) (hi : i < 8) : (be8 c).take (8 - (i + 1)) ++ [be c i] = (be8 c).take (8 - i) := by
  have hi' : i = 0 ∨ i = 1 ∨ i = 2 ∨ i = 3 ∨ i = 4 ∨ i = 5 ∨ i = 6 ∨ i = 7 := by omega
  rcases hi' with rfl | rfl | rfl | rfl | rfl | rfl | rfl | rfl <;> rfl
theorem Z_snoc (n : Nat) : Z n ++ [0] = Z (n + 1) := by rw [Z, Z, ← List.replicate_succ']
theorem C_snoc (k : IntKind) (l : List Nat) (x : Nat) : C k l ++ [.int k (x : Int)] = C k (l ++ [x]) := by rw [C_append]; rfl

set_option maxHeartbeats 800000 in
theorem padded_any (v : Value) (xs : List Nat) (w : World) (hv : SlV w v (C .u8 xs)) (hx : Lo 256 xs) (hm : xs.length ≤ 1000000000000) :
    Calls Tryd.prog 40 #[v, .int .i64 64, .int .i64 8] w fun e w' => ∃ v' n, e = .returned v' ∧ w'.ownsRow w.heap.size 5 1 v' n (C .u8 (pad1 xs)) ∧ Below w.heap.size w w' := by
  obtain ⟨N, hN⟩ : ∃ N, xs.length = N := ⟨_, rfl⟩
  obtain ⟨sa, sc, rfl, h1, h2⟩ := hv.shp hN
  rw [hN] at hm
  have hNm : (N : Int) ≤ 9223372036854775807 := by omega
  have hA : Below w.heap.size w (w.alloc (.cells #[] 5)) := (Below.refl _ _).alloc (Nat.le_refl _) _
  have hsA := hv.below hA
  have hoA := own_empty w w.heap.size 5 (Nat.le_refl _)
  go_enter Tryd.func40, Tryd.ntmps40
  go_wp2_with (at_builtin; refine wpList_append_sl rfl (.tmp 11) (.tmp 12) 22 rfl w.heap.size 5 _ 1 Tryd.underlying22 inf8 rfl _ 0 [] rfl hoA _ (C .u8 xs) rfl hsA (C_one _ _) (by rw [C_length]; unfold maxLen; omega) (by rw [C_length]; omega) hA.size ?_)
  intro v1 w1 ho1 hg1
  have hb1 : Below w.heap.size w w1 := hA.grown hg1 hA.size (fun k hk => (hoA.lt k hk).1)
  have ho1 : w1.ownsRow w.heap.size 5 1 v1 N (C .u8 xs) := by simpa [C_length, hN] using ho1
  clear hg1 hoA hsA hA
  have HB1 := Away.mk hb1
  go_wp2_with (at_builtin; refine wpList_append_sl rfl (.tmp 14) (.tmp 15) 22 rfl w.heap.size 5 _ 1 Tryd.underlying22 inf8 rfl _ N _ rfl (ho1.alloc _) _ [.int .u8 128] rfl (SlV_one _ _ _) (by simp [Value.oneCell']) (by simp; unfold maxLen; omega) (by simp; omega) (by have := HB1.out.size; simp; omega) ?_)
  intro v2 w2 ho2 hg2
  have hb2 : Below w.heap.size w w2 := (HB1.out.alloc HB1.out.size _).grown hg2 (by have := HB1.out.size; simp; omega) (fun k hk => (ho1.lt k hk).1)
  have ho2 : w2.ownsRow w.heap.size 5 1 v2 (N + 1 + 0) (C .u8 (xs ++ 128 :: Z 0)) := by
    rw [C_append]; simpa [C, Z] using ho2
  clear hg2 HB1 ho1 hb1
  go_wp2
  go_loopw [7] (fun v wr => ∃ j : Nat, j ≤ nz N ∧ wr.ownsRow w.heap.size 5 1 v (N + 1 + j) (C .u8 (xs ++ 128 :: Z j)) ∧ Below w.heap.size w wr) (fun v _ => N + 1 + nz N - lenS v)
  case atStart => exact ⟨0, Nat.zero_le _, ho2, hb2⟩
  case round =>
    clear ho2 hb2
    obtain ⟨j, hj, ho, hb⟩ := hrel
    have hz64 : nz N < 64 := Nat.mod_lt _ (by decide)
    obtain ⟨g, cap, rfl, hbg, hgl, hnc, hcm⟩ := own_shape ho (by omega)
    obtain ⟨M, hM⟩ : ∃ M, N + 1 + j = M := ⟨_, rfl⟩
    have hMm : (M : Int) ≤ 9223372036854775807 := by omega
    rw [hM] at ho hnc ⊢
    by_cases hstop : M % 64 = 56
    · have hmod : (M : Int) % 64 = 56 := by omega
      have hj' := nz_stop hj (by rw [hM]; exact hstop)
      obtain ⟨c, hc⟩ : ∃ c, 8 * N = c := ⟨_, rfl⟩
      have hci : (N : Int) * 8 = (c : Int) := by omega
      have hcm : c < 18446744073709551616 := by omega
      have HE : Away (pad1 xs = (xs ++ 128 :: Z j) ++ (be8 c).take 8) := ⟨by
        rw [pad1, hN, hc, Nat.mod_eq_of_lt hcm, show zs1 N = j from hj'.symm]
        simp [Z, be8]⟩
      have hlP : (xs ++ 128 :: Z j).length = M := by simp [Z_length]; omega
      generalize xs ++ 128 :: Z j = P at *
      have HC := Away.mk hc
      clear hc
      go_upto_region 6 with fail
      rw [hmod]
      clear hmod hci hstop
      go_wp2
      go_loopw [7, 9] (fun v i wr => ∃ k : Nat, k ≤ 8 ∧ i = .int .i64 ((k : Int) - 1) ∧ wr.ownsRow w.heap.size 5 1 v (M + (8 - k)) (C .u8 (P ++ (be8 c).take (8 - k))) ∧ Below w.heap.size w wr) (fun _ i _ => ((intOf i) + 1).toNat)
      case atStart => exact ⟨8, Nat.le_refl _, rfl, by simpa using ho, hb⟩
      case round =>
        clear ho hb
        obtain ⟨k, hk, rfl, ho, hb⟩ := hrel
        have HB := Away.mk hb
        have HO := Away.mk ho
        clear hb ho
        obtain ⟨L, hL⟩ : ∃ L, M + (8 - k) = L := ⟨_, rfl⟩
        rw [hL] at HO
        obtain ⟨g4, cap4, rfl, hbg4, hgl4, hnc4, hcm4⟩ := own_shape HO.out (by omega)
        cases k with
        | zero =>
          go_wp2
          go_ret
          refine ⟨_, L, rfl, ?_, HB.out⟩
          rw [HE.out]
          exact HO.out
        | succ i =>
          have hi : ((i + 1 : Nat) : Int) - 1 = (i : Int) := by omega
          rw [hi]
          have hi8 : (i : Int) < 8 := by omega
          have HV : Away ((c : Int) / 2 ^ (8 * i) % 256 = (be c i : Nat)) := ⟨by rw [be]; simp⟩
          clear hi
          go_upto_region 12 with fail
          rw [HV.out]
          go_wp2_with (at_builtin; refine wpList_append_sl rfl (.tmp 46) (.tmp 48) 22 rfl w.heap.size 5 _ 1 Tryd.underlying22 inf8 rfl _ L _ rfl (HO.out.alloc _) _ [.int .u8 (be c i : Nat)] rfl (SlV_one _ _ _) (by simp [Value.oneCell']) (by simp; unfold maxLen; omega) (by simp; omega) (by have := HB.out.size; simp; omega) ?_)
          intro v3 w3 ho3 hg3
          have hb3 : Below w.heap.size w w3 := (HB.out.alloc HB.out.size _).grown hg3 (by have := HB.out.size; simp; omega) (fun k hk => (HO.out.lt k hk).1)
          have ho3 : w3.ownsRow w.heap.size 5 1 v3 (M + (8 - i)) (C .u8 (P ++ (be8 c).take (8 - i))) := by
            have := ho3
            rw [C_snoc, List.append_assoc] at this
            have hn := be8_next c i (by omega)
            rw [show 8 - (i + 1) = 7 - i by omega] at hn
            rw [hn] at this
            rwa [show M + (8 - i) = L + 1 by omega]
          clear HB HO hg3
          have hiw : IntKind.i64.wrap ((i : Int) - 1) = (i : Int) - 1 := IntWalk.i64_in _ ⟨by omega, by omega⟩
          go_wp2
          go_roundw
          case rel => exact ⟨i, by omega, rfl, ho3, hb3⟩
          case measure => simp [intOf]
    · obtain ⟨r, hr⟩ : ∃ r, M % 64 = r := ⟨_, rfl⟩
      have hmod : (M : Int) % 64 = (r : Int) := by omega
      have hne : ((r : Int) == 56) = false := by simp; omega
      have hj' := nz_go hj (by rw [hM]; exact hstop)
      have HB := Away.mk hb
      have HO := Away.mk ho
      clear hb ho
      go_wp2_with (at_builtin; refine wpList_append_sl rfl (.tmp 25) (.tmp 26) 22 rfl w.heap.size 5 _ 1 Tryd.underlying22 inf8 rfl _ M _ rfl (HO.out.alloc _) _ [.int .u8 0] rfl (SlV_one _ _ _) (by simp [Value.oneCell']) (by simp; unfold maxLen; omega) (by simp; omega) (by have := HB.out.size; simp; omega) ?_)
      intro v3 w3 ho3 hg3
      have hb3 : Below w.heap.size w w3 := (HB.out.alloc HB.out.size _).grown hg3 (by have := HB.out.size; simp; omega) (fun k hk => (HO.out.lt k hk).1)
      have ho3 : w3.ownsRow w.heap.size 5 1 v3 (N + 1 + (j + 1)) (C .u8 (xs ++ 128 :: Z (j + 1))) := by
        have := ho3
        rw [show Value.int .u8 0 = .int .u8 ((0 : Nat) : Int) from rfl, C_snoc, List.append_assoc, List.cons_append, Z_snoc] at this
        rwa [show N + 1 + (j + 1) = M + 1 by omega]
      obtain ⟨g3, cap3, rfl, _, _, _, _⟩ := own_shape ho3 (by omega)
      clear HB HO hg3
      go_wp2
      refine ⟨⟨j + 1, by omega, ho3, hb3⟩, by simp only [lenS]; omega⟩
end Go.Proofs.YtmbaenodibfedaaDoor.S2
