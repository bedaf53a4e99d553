/-
  The contract of the first hash's Sum, over this seat's translation. Conditions: as it says.
-/
import Derived.Test.YtmbaenodibfedaaDoorShaN
namespace Go.Proofs.YtmbaenodibfedaaDoor.S1
open Go.RowKit
set_option linter.unusedVariables false
set_option maxRecDepth 10000

set_option maxHeartbeats 800000 in
theorem sum_any (v : Value) (xs : List Nat) (w : World) (hv : SlV w v (C .u8 xs)) (hx : Lo 256 xs) :
    Calls Tryd.prog 19 #[v] w fun e w' => e = .returned (.agg (C .u8 (sum1 xs)).toArray) ∧ Below w.heap.size w w' := by
  obtain ⟨N, hN⟩ : ∃ N, xs.length = N := ⟨_, rfl⟩
  obtain ⟨sa, sc, rfl, h1, h2⟩ := hv.shp hN
  have hNm : N ≤ 9223372036854775807 := by unfold maxLen at h2; omega
  have hA := Row.new w 41 (C .u8 (Z 20))
  have hL := (Below.more (Below.refl w.heap.size w) (Nat.le_refl _) (.cells (C .u8 (Z 20)).toArray 41)).1
  go_enter Tryd.func19, Tryd.ntmps19
  go_wp2_with (refine wpList_alloc_row rfl 41 rfl _ z20 ?_)
  refine (start_any _).mono ?_
  rintro _ w1 ⟨rfl, hb1⟩
  have hA1 := hA.belowS hb1
  have hL1 := hL.trans (hb1.mono hL.size)
  have hlt1 := hA1.lt
  clear hA hL hb1
  have i5s : (Tryd.prog.info? 59).map (·.size) = some (C .u32 start1.list).length := i5
  have h55 : (C .u32 (Z 5)).length = (C .u32 start1.list).length := rfl
  have hB1 := Row.new w1 59 (C .u32 (Z 5))
  have hA1' := hA1.alloc (.cells (C .u32 (Z 5)).toArray 59)
  have hL1' := Below.more hL1 hL1.size (.cells (C .u32 (Z 5)).toArray 59)
  go_upto_region 3 with (first | refine wpList_alloc_row rfl 59 rfl _ z5 ?_ | (refine wpList_store_R rfl 59 _ _ rfl _ (C .u32 start1.list) rfl rfl hB1 i5s h55 (C_allL _ _) ?_; intro w2 hB2 hg2 hz2))
  have hA2 := hA1'.grown hg2 (by simp; omega)
  have hL2 := below_grown hL1'.1 hg2 (by omega) hB1.lt
  clear hB1 hA1' hL1' hA1 hg2 hz2 hL1
  obtain ⟨g1, hg1⟩ : ∃ g1, w1.heap.size = g1 := ⟨_, rfl⟩
  rw [hg1] at hB2 hlt1 ⊢
  clear hg1
  have hA3 := hA2.alloc (.cells (C .u8 (Z 64)).toArray 47)
  have hB3 := hB2.alloc (.cells (C .u8 (Z 64)).toArray 47)
  have hlt2 := hB2.lt
  have hC3 := Row.new w2 47 (C .u8 (Z 64))
  have hL3 := (Below.more hL2 hL2.size (.cells (C .u8 (Z 64)).toArray 47)).1
  go_wp2_with (refine wpList_alloc_row rfl 47 rfl _ z64 ?_)
  clear hA2 hB2 hL2
  generalize w2.alloc (.cells (C .u8 (Z 64)).toArray 47) = w3 at *
  obtain ⟨g2, hg2⟩ : ∃ g2, w2.heap.size = g2 := ⟨_, rfl⟩
  rw [hg2] at hC3 hlt2
  simp only [Act.put, List.setIfInBounds_toArray, List.set_cons_zero, List.set_cons_succ]
  rw [hg2]
  clear hg2
  go_loopw [4] (fun v wr => ∃ (k : Nat) (B : List Nat), 64 * k ≤ N ∧ v = v ∧ lenS v = N - 64 * k ∧ SlV w v (C .u8 (xs.drop (64 * k))) ∧ B.length = 64 ∧ Row wr w.heap.size 41 (C .u8 (Z 20)) ∧ Row wr g1 59 (C .u32 (blks1 start1 xs k).list) ∧ Row wr g2 47 (C .u8 B) ∧ Below w.heap.size w wr) (fun v _ => lenS v)
  case atStart => exact ⟨0, Z 64, by omega, rfl, rfl, hv, rfl, hA3, hB3, hC3, hL3⟩
  case round =>
    clear hA3 hB3 hC3 hL3
    obtain ⟨k, B, hk, -, hlen, hv3, hBn, hA3, hB3, hC3, hL3⟩ := hrel
    obtain ⟨m, hm⟩ : ∃ m, N - 64 * k = m := ⟨_, rfl⟩
    have hml : (xs.drop (64 * k)).length = m := by simp [hN, hm]
    obtain ⟨a, cap, rfl, hmc, hcm⟩ := hv3.shp hml
    have hmi : (m : Int) ≤ 9223372036854775807 := by omega
    have hks : (blks1 start1 xs (k + 1)) = blk1 (blks1 start1 xs k) ((xs.drop (64 * k)).take 64) := rfl
    have HK := Away.mk hks
    have hSo := blks1_ok start1_ok xs k
    obtain ⟨S, hS⟩ : ∃ S, blks1 start1 xs k = S := ⟨_, rfl⟩
    rw [hS] at hB3 HK hSo
    have HS := Away.mk hS
    clear hks hS
    have i5S : (Tryd.prog.info? 59).map (·.size) = some (C .u32 S.list).toArray.size := i5
    by_cases h64 : 64 ≤ m
    · have hQn : ((xs.drop (64 * k)).take 64).length = 64 := by rw [List.length_take, hml]; omega
      have hQl : Lo 256 ((xs.drop (64 * k)).take 64) := (hx.drop _).take _
      obtain ⟨b, off, rfl, hbl, hcx⟩ := hv3.cells (by rw [C_length]; omega)
      have hcut := hv3.cutIf 64 (m - 64) (by omega)
      simp only [Option.map_some, Addr.add_lit] at hcut
      rw [← C_drop, ← C_take, List.drop_drop, List.take_of_length_le (by simp; omega), show 64 * k + 64 = 64 * (k + 1) by omega] at hcut
      obtain ⟨T, hT⟩ : ∃ T, blk1 S ((xs.drop (64 * k)).take 64) = T := ⟨_, rfl⟩
      rw [hT] at HK
      have hcat : (C .u8 (xs.drop (64 * k))).take 64 ++ (C .u8 B).drop m = C .u8 ((xs.drop (64 * k)).take 64) := by
        rw [List.drop_of_length_le (show (C .u8 B).length ≤ m by rw [C_length]; omega), List.append_nil, C_take]
      have hvr := hv3.below hL3
      generalize (xs.drop (64 * k)).take 64 = Q at *
      have HT := Away.mk hT
      have HQ := Away.mk hcat
      have HC := Away.mk hcut
      clear hT hcat hcut hlen hcx
      have i5T : (Tryd.prog.info? 59).map (·.size) = some (C .u32 T.list).length := i5
      have h5T : (C .u32 S.list).length = (C .u32 T.list).length := rfl
      have hl64 : (Tryd.prog.info? 47).map (·.size) = some (C .u8 Q).toArray.size := by rw [C_size, hQn]; exact i64
      have hBn' : (C .u8 B).length = 64 := by rw [C_length, hBn]
      have h64i : (64 : Int) ≤ (m : Int) := by omega
      go_wp2_with (first | (refine wpList_copy_R rfl _ _ 22 rfl 5 Tryd.underlying22 i1b g2 64 64 m (C .u8 B) (C .u8 (xs.drop (64 * k))) (some ⟨b, off, none⟩) cap rfl rfl hC3 hvr hBn' (C_allL _ _) ?_; intro w4 hC4 hg4 hz4; rw [HQ.out] at hC4; have hA4 := hA3.grown hg4 (by simp; omega); have hB4 := hB3.grown hg4 (by simp; omega); have hL4 := below_grown hL3 hg4 (by omega) hC3.lt) | refine wpList_load_row rfl 59 _ rfl _ rfl _ _ _ _ hB4 Tryd.underlying59 rfl i5S ?_ | refine wpList_load_row rfl 47 _ rfl _ rfl _ _ _ _ hC4 Tryd.underlying47 rfl hl64 ?_)
      refine (block_any S hSo Q hQl hQn _).mono ?_
      rintro _ w5 ⟨rfl, hb5⟩
      rw [HT.out]
      have hA5 := hA4.belowS hb5
      have hB5 := hB4.belowS hb5
      have hC5 := hC4.belowS hb5
      have hL5 := hL4.trans (hb5.mono hL4.size)
      have hlt5 := hB5.lt
      clear hA3 hB3 hC3 hL3 hA4 hB4 hC4 hL4 hg4 hz4 hb5 hvr
      go_wp2_with (refine wpList_store_R rfl 59 _ _ rfl _ (C .u32 T.list) rfl rfl hB5 i5T h5T (C_allL _ _) ?_; intro w6 hB6 hg6 hz6; have hA6 := hA5.grown hg6 (by simp; omega); have hC6 := hC5.grown hg6 (by simp; omega); have hL6 := below_grown hL5 hg6 (by omega) hlt5)
      refine ⟨⟨k + 1, Q, by omega, trivial, by simp only [lenS]; omega, HC.out, hQn, hA6, by rw [HK.out]; exact hB6, hC6, hL6⟩, by simp only [lenS]; omega⟩
    · have hk64 : k = N / 64 := by omega
      have HE := Away.mk (sum1_eq xs)
      rw [hN, ← hk64, HS.out] at HE
      have d64 : decide ((64 : Int) ≤ (m : Int)) = false := decide_eq_false (by omega)
      have hlo := hx.drop (64 * k)
      generalize xs.drop (64 * k) = l at *
      obtain ⟨c, hc⟩ : ∃ c, 8 * N % 18446744073709551616 = c := ⟨_, rfl⟩
      have HCc := Away.mk hc
      rw [hc] at HE
      clear hc hk64 hlen
      have hvr := hv3.below hL3
      go_wp2_with (refine wpList_load_row rfl 59 _ rfl _ rfl _ _ _ _ hB3 Tryd.underlying59 rfl i5S ?_)
      refine (ended_any S hSo _ l N wr hvr hlo (by omega) hNm).mono ?_
      rintro _ w4 ⟨rfl, hb4⟩
      rw [HCc.out]
      have hA4 := hA3.belowS hb4
      have hL4 := hL3.trans (hb4.mono hL3.size)
      clear hA3 hB3 hC3 hL3 hb4 hvr
      have hFo : (fin1 S l c).ok := by unfold fin1; split <;> exact blk1_ok _ _
      generalize fin1 S l c = F at *
      go_wp2_with fail
      refine (written_any F hFo _).mono ?_
      rintro _ w5 ⟨rfl, hb5⟩
      have hA5 := hA4.belowS hb5
      have hL5 := hL4.trans (hb5.mono hL4.size)
      have hlt5 := hA5.lt
      have hOn := out1_length F
      generalize out1 F = O at *
      have i20O : (Tryd.prog.info? 41).map (·.size) = some (C .u8 O).length := by rw [C_length, hOn]; exact i20
      have h20O : (C .u8 (Z 20)).length = (C .u8 O).length := by rw [C_length, C_length, hOn, Z_length]
      clear hA4 hL4 hb5
      go_wp2_with (refine wpList_store_R rfl 41 _ _ rfl _ (C .u8 O) rfl rfl hA5 i20O h20O (C_allL _ _) ?_; intro w7 hB8 hg8 hz8)
      exact result_row Tryd.results19 rfl hB8 Tryd.underlying41 rfl i20O rfl ⟨by rw [HE.out], below_grown hL5 hg8 (by omega) hlt5⟩
end Go.Proofs.YtmbaenodibfedaaDoor.S1
