/-
  Contracts of the third hash's behind, Sum512 and Sum384, over this seat's translation. Conditions: less than 2^60 bytes; the steps' numbers stand in the package's variable.
-/
import Derived.Test.YtmbaenodibfedaaDoorSh3N
import Derived.Test.YtmbaenodibfedaaDoorKit9
namespace Go.Proofs.YtmbaenodibfedaaDoor.S3
open Go.RowKit
set_option linter.unusedVariables false
set_option maxRecDepth 10000

set_option maxHeartbeats 800000 in
theorem behind_any (s0 : S8) (hs0 : s0.ok) (v : Value) (xs : List Nat) (w : World) (hv : SlV w v (C .u8 xs)) (hx : Lo 256 xs) (hm60 : xs.length < 1152921504606846976) (hTab : Tab w) :
    Calls Tryd.prog 37 #[.agg (C .u64 s0.list).toArray, v] w fun e w' => e = .returned (.agg (C .u64 (beh3 s0 xs).list).toArray) ∧ Below w.heap.size w w' := by
  obtain ⟨N, hN⟩ : ∃ N, xs.length = N := ⟨_, rfl⟩
  obtain ⟨sa, sc, rfl, h1, h2⟩ := hv.shp hN
  have hNm : N < 1152921504606846976 := by omega
  have hB3 := ((Row.new w 69 (C .u64 s0.list)).alloc (.cells (C .u64 (Z 8)).toArray 69)).alloc (.cells (C .u8 (Z 128)).toArray 92)
  have hA3 := (Row.newAt (w.alloc (.cells (C .u64 s0.list).toArray 69)) (w.heap.size + 1) (by simp) 69 (C .u64 (Z 8))).alloc (.cells (C .u8 (Z 128)).toArray 92)
  have hC3 := Row.newAt ((w.alloc (.cells (C .u64 s0.list).toArray 69)).alloc (.cells (C .u64 (Z 8)).toArray 69)) (w.heap.size + 1 + 1) (by simp) 92 (C .u8 (Z 128))
  have hL0 := Below.more (Below.refl w.heap.size w) (Nat.le_refl _) (.cells (C .u64 s0.list).toArray 69)
  have hL1 := Below.more hL0.1 hL0.2 (.cells (C .u64 (Z 8)).toArray 69)
  have hL3 := (Below.more hL1.1 hL1.2 (.cells (C .u8 (Z 128)).toArray 92)).1
  clear hL0 hL1
  go_enter Tryd.func37, Tryd.ntmps37
  go_wp2_with (first | refine wpList_alloc_row rfl 69 rfl _ z8 ?_ | refine wpList_alloc_row rfl 92 rfl _ z128 ?_)
  simp only [Act.put, List.setIfInBounds_toArray, List.set_cons_zero, List.set_cons_succ, alloc_size]
  generalize ((w.alloc (.cells (C .u64 s0.list).toArray 69)).alloc (.cells (C .u64 (Z 8)).toArray 69)).alloc (.cells (C .u8 (Z 128)).toArray 92) = w3 at *
  go_loopw [5] (fun v wr => ∃ (k : Nat) (B : List Nat), 128 * k ≤ N ∧ v = v ∧ lenS v = N - 128 * k ∧ SlV w v (C .u8 (xs.drop (128 * k))) ∧ B.length = 128 ∧ Row wr (w.heap.size + 1) 69 (C .u64 (Z 8)) ∧ Row wr w.heap.size 69 (C .u64 (blks3 s0 xs k).list) ∧ Row wr (w.heap.size + 1 + 1) 92 (C .u8 B) ∧ Below w.heap.size w wr) (fun v _ => lenS v)
  case atStart => exact ⟨0, Z 128, by omega, rfl, rfl, hv, rfl, hA3, hB3, hC3, hL3⟩
  case round =>
    clear hA3 hB3 hC3 hL3
    obtain ⟨k, B, hk, -, hlen, hv3, hBn, hA3, hB3, hC3, hL3⟩ := hrel
    obtain ⟨m, hm⟩ : ∃ m, N - 128 * k = m := ⟨_, rfl⟩
    have hml : (xs.drop (128 * k)).length = m := by simp [hN, hm]
    obtain ⟨a, cap, rfl, hmc, hcm⟩ := hv3.shp hml
    have hmi : (m : Int) ≤ 9223372036854775807 := by omega
    have hks : (blks3 s0 xs (k + 1)) = blk3 (blks3 s0 xs k) ((xs.drop (128 * k)).take 128) := rfl
    have HK := Away.mk hks
    have hSo := blks3_ok hs0 xs k
    obtain ⟨S, hS⟩ : ∃ S, blks3 s0 xs k = S := ⟨_, rfl⟩
    rw [hS] at hB3 HK hSo
    have HS := Away.mk hS
    clear hks hS
    have i5S : (Tryd.prog.info? 69).map (·.size) = some (C .u64 S.list).toArray.size := i8
    by_cases h64 : 128 ≤ m
    · have hQn : ((xs.drop (128 * k)).take 128).length = 128 := by rw [List.length_take, hml]; omega
      have hQl : Lo 256 ((xs.drop (128 * k)).take 128) := (hx.drop _).take _
      obtain ⟨b, off, rfl, hbl, hcx⟩ := hv3.cells (by rw [C_length]; omega)
      have hcut := hv3.cutIf 128 (m - 128) (by omega)
      simp only [Option.map_some, Addr.add_lit] at hcut
      rw [← C_drop, ← C_take, List.drop_drop, List.take_of_length_le (by simp; omega), show 128 * k + 128 = 128 * (k + 1) by omega] at hcut
      obtain ⟨T, hT⟩ : ∃ T, blk3 S ((xs.drop (128 * k)).take 128) = T := ⟨_, rfl⟩
      rw [hT] at HK
      have hcat : (C .u8 (xs.drop (128 * k))).take 128 ++ (C .u8 B).drop m = C .u8 ((xs.drop (128 * k)).take 128) := by
        rw [List.drop_of_length_le (show (C .u8 B).length ≤ m by rw [C_length]; omega), List.append_nil, C_take]
      have hvr := hv3.below hL3
      generalize (xs.drop (128 * k)).take 128 = Q at *
      have HT := Away.mk hT
      have HQ := Away.mk hcat
      have HC := Away.mk hcut
      clear hT hcat hcut hlen hcx
      have i5T : (Tryd.prog.info? 69).map (·.size) = some (C .u64 T.list).length := i8
      have h5T : (C .u64 S.list).length = (C .u64 T.list).length := rfl
      have hl64 : (Tryd.prog.info? 92).map (·.size) = some (C .u8 Q).toArray.size := by rw [C_size, hQn]; exact i128
      have hBn' : (C .u8 B).length = 128 := by rw [C_length, hBn]
      have h64i : (128 : Int) ≤ (m : Int) := by omega
      go_wp2_with (first | (refine wpList_copy_R rfl _ _ 22 rfl 5 Tryd.underlying22 i1b (w.heap.size + 1 + 1) 128 128 m (C .u8 B) (C .u8 (xs.drop (128 * k))) (some ⟨b, off, none⟩) cap rfl rfl hC3 hvr hBn' (C_allL _ _) ?_; intro w4 hC4 hg4 hz4; rw [HQ.out] at hC4; have hA4 := hA3.grown hg4 (by simp <;> omega); have hB4 := hB3.grown hg4 (by simp <;> omega); have hL4 := below_grown hL3 hg4 (by omega) hC3.lt) | refine wpList_load_row rfl 69 _ rfl _ rfl _ _ _ _ hB4 Tryd.underlying69 rfl i5S ?_ | refine wpList_load_row rfl 92 _ rfl _ rfl _ _ _ _ hC4 Tryd.underlying92 rfl hl64 ?_)
      refine (block_any S hSo Q hQl hQn _ (hTab.below hL4)).mono ?_
      rintro _ w5 ⟨rfl, hb5⟩
      rw [HT.out]
      have hA5 := hA4.belowS hb5
      have hB5 := hB4.belowS hb5
      have hC5 := hC4.belowS hb5
      have hL5 := hL4.trans (hb5.mono hL4.size)
      have hlt5 := hB5.lt
      clear hA3 hB3 hC3 hL3 hA4 hB4 hC4 hL4 hg4 hz4 hb5 hvr
      go_wp2_with (refine wpList_store_R rfl 69 _ _ rfl _ (C .u64 T.list) rfl rfl hB5 i5T h5T (C_allL _ _) ?_; intro w6 hB6 hg6 hz6; have hA6 := hA5.grown hg6 (by simp <;> omega); have hC6 := hC5.grown hg6 (by simp <;> omega); have hL6 := below_grown hL5 hg6 (by omega) hlt5)
      refine ⟨⟨k + 1, Q, by omega, trivial, by simp only [lenS]; omega, HC.out, hQn, hA6, by rw [HK.out]; exact hB6, hC6, hL6⟩, by simp only [lenS]; omega⟩
    · have hk64 : k = N / 128 := by omega
      have HE : Away (beh3 s0 xs = fin3 (blks3 s0 xs (xs.length / 128)) (xs.drop (128 * (xs.length / 128))) (8 * xs.length % 18446744073709551616)) := ⟨rfl⟩
      rw [hN, ← hk64, HS.out] at HE
      have d64 : decide ((128 : Int) ≤ (m : Int)) = false := decide_eq_false (by omega)
      have hlo := hx.drop (128 * k)
      generalize xs.drop (128 * k) = l at *
      obtain ⟨c, hc⟩ : ∃ c, 8 * N % 18446744073709551616 = c := ⟨_, rfl⟩
      have HCc := Away.mk hc
      rw [hc] at HE
      clear hc hk64 hlen
      have hvr := hv3.below hL3
      go_wp2_with (refine wpList_load_row rfl 69 _ rfl _ rfl _ _ _ _ hB3 Tryd.underlying69 rfl i5S ?_)
      refine (ended_any S hSo _ l N wr hvr hlo (by omega) hNm (hTab.below hL3)).mono ?_
      rintro _ w4 ⟨rfl, hb4⟩
      rw [HCc.out]
      have hA4 := hA3.belowS hb4
      have hL4 := hL3.trans (hb4.mono hL3.size)
      have hlt5 := hA4.lt
      clear hA3 hB3 hC3 hL3 hb4 hvr
      generalize fin3 S l c = F at *
      have i8F : (Tryd.prog.info? 69).map (·.size) = some (C .u64 F.list).length := i8
      have h8F : (C .u64 (Z 8)).length = (C .u64 F.list).length := rfl
      go_wp2_with (refine wpList_store_R rfl 69 _ _ rfl _ (C .u64 F.list) rfl rfl hA4 i8F h8F (C_allL _ _) ?_; intro w7 hB8 hg8 hz8)
      exact result_row Tryd.results37 rfl hB8 Tryd.underlying69 rfl i8F rfl ⟨by rw [HE.out], below_grown hL4 hg8 (by omega) hlt5⟩

set_option maxRecDepth 10000 in
theorem sum512_any (v : Value) (xs : List Nat) (w : World) (hv : SlV w v (C .u8 xs)) (hx : Lo 256 xs) (hm60 : xs.length < 1152921504606846976) (hTab : Tab w) :
    Calls Tryd.prog 22 #[v] w fun e w' => e = .returned (.agg (C .u8 (sum3 true xs)).toArray) ∧ Below w.heap.size w w' := by
  have HE := Away.mk (sum3_eq true xs)
  have hA := Row.new w 47 (C .u8 (Z 64))
  have hL := (Below.more (Below.refl w.heap.size w) (Nat.le_refl _) (.cells (C .u8 (Z 64)).toArray 47)).1
  go_enter Tryd.func22, Tryd.ntmps22
  go_wp2_with (refine wpList_alloc_row rfl 47 rfl _ z64 ?_)
  refine (start_any true _).mono ?_
  rintro _ w1 ⟨rfl, hb1⟩
  have hA1 := hA.belowS hb1
  have hL1 := hL.trans (hb1.mono hL.size)
  clear hA hL hb1
  go_wp2_with fail
  refine (behind_any _ (start3_ok true) v xs _ (hv.below hL1) hx hm60 (hTab.below hL1)).mono ?_
  rintro _ w2 ⟨rfl, hb2⟩
  have hA2 := hA1.belowS hb2
  have hL2 := hL1.trans (hb2.mono hL1.size)
  clear hA1 hL1 hb2
  have hFo := beh3_ok (start3 true) xs
  generalize beh3 (start3 true) xs = F at *
  go_wp2_with fail
  refine (written_any F hFo _).mono ?_
  rintro _ w3 ⟨rfl, hb3⟩
  have hA3 := hA2.belowS hb3
  have hL3 := hL2.trans (hb3.mono hL2.size)
  have hlt3 := hA3.lt
  have hOn := out3_length F
  generalize out3 F = O at *
  have i32O : (Tryd.prog.info? 47).map (·.size) = some (C .u8 O).length := by rw [C_length, hOn]; exact i64
  have h32O : (C .u8 (Z 64)).length = (C .u8 O).length := by rw [C_length, C_length, hOn, Z_length]
  clear hA2 hL2 hb3
  go_wp2_with (refine wpList_store_R rfl 47 _ _ rfl _ (C .u8 O) rfl rfl hA3 i32O h32O (C_allL _ _) ?_; intro w7 hB8 hg8 hz8)
  exact result_row Tryd.results22 rfl hB8 Tryd.underlying47 rfl i32O rfl ⟨by rw [HE.out], below_grown hL3 hg8 (by omega) hlt3⟩

set_option maxRecDepth 10000 in
theorem sum384_any (v : Value) (xs : List Nat) (w : World) (hv : SlV w v (C .u8 xs)) (hx : Lo 256 xs) (hm60 : xs.length < 1152921504606846976) (hTab : Tab w) :
    Calls Tryd.prog 21 #[v] w fun e w' => e = .returned (.agg (C .u8 ((sum3 false xs).take 48)).toArray) ∧ Below w.heap.size w w' := by
  have HE := Away.mk (sum3_eq false xs)
  have hA := (Row.new w 45 (C .u8 (Z 48))).alloc (.cells (C .u8 (Z 48)).toArray 45)
  have hD := Row.newAt (w.alloc (.cells (C .u8 (Z 48)).toArray 45)) (w.heap.size + 1) (by simp) 45 (C .u8 (Z 48))
  have hL0 := Below.more (Below.refl w.heap.size w) (Nat.le_refl _) (.cells (C .u8 (Z 48)).toArray 45)
  have hL := (Below.more hL0.1 hL0.2 (.cells (C .u8 (Z 48)).toArray 45)).1
  clear hL0
  go_enter Tryd.func21, Tryd.ntmps21
  go_wp2_with (refine wpList_alloc_row rfl 45 rfl _ z48 ?_)
  generalize (w.alloc (.cells (C .u8 (Z 48)).toArray 45)).alloc (.cells (C .u8 (Z 48)).toArray 45) = w0 at *
  refine (start_any false _).mono ?_
  rintro _ w1 ⟨rfl, hb1⟩
  have hA1 := hA.belowS hb1
  have hD1 := hD.belowS hb1
  have hL1 := hL.trans (hb1.mono hL.size)
  clear hA hD hL hb1
  go_wp2_with fail
  refine (behind_any _ (start3_ok false) v xs _ (hv.below hL1) hx hm60 (hTab.below hL1)).mono ?_
  rintro _ w2 ⟨rfl, hb2⟩
  have hA2 := hA1.belowS hb2
  have hD2 := hD1.belowS hb2
  have hL2 := hL1.trans (hb2.mono hL1.size)
  clear hA1 hD1 hL1 hb2
  have hFo := beh3_ok (start3 false) xs
  generalize beh3 (start3 false) xs = F at *
  go_wp2_with fail
  refine (written_any F hFo _).mono ?_
  rintro _ w3 ⟨rfl, hb3⟩
  have hA3 := hA2.belowS hb3
  have hD3 := hD2.belowS hb3
  have hL3 := hL2.trans (hb3.mono hL2.size)
  have hltA := hA3.lt
  have hltD := hD3.lt
  have hOn := out3_length F
  generalize out3 F = O at *
  have i32O : (Tryd.prog.info? 47).map (·.size) = some (C .u8 O).length := by rw [C_length, hOn]; exact i64
  have h32O : (C .u8 (Z 64)).length = (C .u8 O).length := by rw [C_length, C_length, hOn, Z_length]
  clear hA2 hD2 hL2 hb3
  have hE3 := Row.new w3 47 (C .u8 (Z 64))
  have hA3' := hA3.alloc (.cells (C .u8 (Z 64)).toArray 47)
  have hD3' := hD3.alloc (.cells (C .u8 (Z 64)).toArray 47)
  have hL3' := Below.more hL3 hL3.size (.cells (C .u8 (Z 64)).toArray 47)
  go_upto_region 3 with (first | refine wpList_alloc_row rfl 47 rfl _ z64 ?_ | (refine wpList_store_R rfl 47 _ _ rfl _ (C .u8 O) rfl rfl hE3 i32O h32O (C_allL _ _) ?_; intro w5 hE5 hg5 hz5))
  have hA4 := hA3'.grown hg5 (by simp <;> omega)
  have hD4 := hD3'.grown hg5 (by simp <;> omega)
  have hL4 := below_grown hL3'.1 hg5 (by omega) hE3.lt
  clear hE3 hA3' hD3' hL3' hA3 hD3 hL3 hg5 hz5
  obtain ⟨g4, hg4⟩ : ∃ g4, w3.heap.size = g4 := ⟨_, rfl⟩
  simp only [Act.put, List.setIfInBounds_toArray, List.set_cons_zero, List.set_cons_succ]
  rw [hg4] at hE5 hltA hltD ⊢
  clear hg4
  refine wp_region_noPanic ?_
  refine wp_region_held_drew (S := fun _ => True) (by kernel_rfl) (trivial) (fun hHeld => ?_)
  refine wpAnyH_takeL (i := 0) (v := ?v0) rfl (by kernel_rfl) (by kernel_rfl) (by kernel_rfl) (fun _ _ _ h => h) (by rfl) ?h0 (by assumption) ?_
  case h0 => intro w hSw; go_simp <;> with_reducible rfl
  simp only [Act.put, List.setIfInBounds_toArray, List.set_cons_zero, List.set_cons_succ]
  refine wpAnyH_takeL (i := 1) (v := ?v1) rfl (by kernel_rfl) (by kernel_rfl) (by kernel_rfl) (fun _ _ _ h => h) (by rfl) ?h1 (by assumption) ?_
  case h1 => intro w hSw; go_simp <;> with_reducible rfl
  simp only [Act.put, List.setIfInBounds_toArray, List.set_cons_zero, List.set_cons_succ]
  refine allReadyH_oneL (i := 2) (by kernel_rfl) rfl (by rfl) (fun K hK => ?_)
  refine wp_copy_R _ _ 22 rfl 5 Tryd.underlying22 i1b (w.heap.size + 1) 48 48 g4 64 64 (C .u8 (Z 48)) (C .u8 O) rfl rfl hD4.drew hE5.drew (by rw [C_length, Z_length]) (by rw [C_length, hOn]) (by decide) (C_allL _ _) ?_
  intro w6 hD6 hg6 hz6
  refine hK.out _ _ (trivial) (fun hHeld => ?_)
  clear hK K
  refine wpAnyH_done (by kernel_rfl) ?_ _
  refine NoPanic.normal ?_
  have hA6 := hA4.drew.grown hg6 (by simp <;> omega)
  have hL6 := below_grown hL4.drew hg6 (by omega) hD4.lt
  have hltA6 := hA6.lt
  have hO28 : (O.take 48).length = 48 := by rw [List.length_take, hOn]; rfl
  rw [← C_take] at hD6
  obtain ⟨U, hU⟩ : ∃ U, O.take 48 = U := ⟨_, rfl⟩
  rw [hU] at hD6 hO28
  have HU := Away.mk hU
  have i28U : (Tryd.prog.info? 45).map (·.size) = some (C .u8 U).length := by rw [C_length, hO28]; exact i48
  have i28U' : (Tryd.prog.info? 45).map (·.size) = some (C .u8 U).toArray.size := by rw [C_size, hO28]; exact i48
  have h28U : (C .u8 (Z 48)).length = (C .u8 U).length := by rw [C_length, C_length, hO28, Z_length]
  clear hU hA4 hD4 hE5 hL4
  go_wp2_with (first | refine wpList_load_row rfl 45 _ rfl _ rfl _ _ _ _ hD6 Tryd.underlying45 rfl i28U' ?_ | (refine wpList_store_R rfl 45 _ _ rfl _ (C .u8 U) rfl rfl hA6 i28U h28U (C_allL _ _) ?_; intro w7 hB8 hg8 hz8))
  exact result_row Tryd.results21 rfl hB8 Tryd.underlying45 rfl i28U rfl ⟨by rw [HE.out, HU.out], below_grown hL6 hg8 (by omega) hltA6⟩
end Go.Proofs.YtmbaenodibfedaaDoor.S3
