/-
  Contracts of the second hash's behind, Sum256 and Sum224, over this seat's translation. Conditions: the steps' numbers stand in the package's variable.
-/
import Derived.Test.YtmbaenodibfedaaDoorSh2N
import Derived.Test.YtmbaenodibfedaaDoorKit9
namespace Go.Proofs.YtmbaenodibfedaaDoor.S2
open Go.RowKit
open S1 (or_lt32 and_lt32 xor_lt32 shr_lt32 mod_lt32 wd wd_lt be be8 zs1 pad1 out4 not32)
set_option linter.unusedVariables false
set_option maxRecDepth 10000

set_option maxHeartbeats 800000 in
theorem behind_any (s0 : S8) (hs0 : s0.ok) (v : Value) (xs : List Nat) (w : World) (hv : SlV w v (C .u8 xs)) (hx : Lo 256 xs) (hTab : Tab w) :
    Calls Tryd.prog 34 #[.agg (C .u32 s0.list).toArray, v] w fun e w' => e = .returned (.agg (C .u32 (beh2 s0 xs).list).toArray) ∧ Below w.heap.size w w' := by
  obtain ⟨N, hN⟩ : ∃ N, xs.length = N := ⟨_, rfl⟩
  obtain ⟨sa, sc, rfl, h1, h2⟩ := hv.shp hN
  have hNm : N ≤ 9223372036854775807 := by unfold maxLen at h2; omega
  have hB3 := ((Row.new w 65 (C .u32 s0.list)).alloc (.cells (C .u32 (Z 8)).toArray 65)).alloc (.cells (C .u8 (Z 64)).toArray 47)
  have hA3 := (Row.newAt (w.alloc (.cells (C .u32 s0.list).toArray 65)) (w.heap.size + 1) (by simp) 65 (C .u32 (Z 8))).alloc (.cells (C .u8 (Z 64)).toArray 47)
  have hC3 := Row.newAt ((w.alloc (.cells (C .u32 s0.list).toArray 65)).alloc (.cells (C .u32 (Z 8)).toArray 65)) (w.heap.size + 1 + 1) (by simp) 47 (C .u8 (Z 64))
  have hL0 := Below.more (Below.refl w.heap.size w) (Nat.le_refl _) (.cells (C .u32 s0.list).toArray 65)
  have hL1 := Below.more hL0.1 hL0.2 (.cells (C .u32 (Z 8)).toArray 65)
  have hL3 := (Below.more hL1.1 hL1.2 (.cells (C .u8 (Z 64)).toArray 47)).1
  clear hL0 hL1
  go_enter Tryd.func34, Tryd.ntmps34
  go_wp2_with (first | refine wpList_alloc_row rfl 65 rfl _ z8 ?_ | refine wpList_alloc_row rfl 47 rfl _ z64 ?_)
  simp only [Act.put, List.setIfInBounds_toArray, List.set_cons_zero, List.set_cons_succ, alloc_size]
  generalize ((w.alloc (.cells (C .u32 s0.list).toArray 65)).alloc (.cells (C .u32 (Z 8)).toArray 65)).alloc (.cells (C .u8 (Z 64)).toArray 47) = w3 at *
  go_loopw [5] (fun v wr => ∃ (k : Nat) (B : List Nat), 64 * k ≤ N ∧ v = v ∧ lenS v = N - 64 * k ∧ SlV w v (C .u8 (xs.drop (64 * k))) ∧ B.length = 64 ∧ Row wr (w.heap.size + 1) 65 (C .u32 (Z 8)) ∧ Row wr w.heap.size 65 (C .u32 (blks2 s0 xs k).list) ∧ Row wr (w.heap.size + 1 + 1) 47 (C .u8 B) ∧ Below w.heap.size w wr) (fun v _ => lenS v)
  case atStart => exact ⟨0, Z 64, by omega, rfl, rfl, hv, rfl, hA3, hB3, hC3, hL3⟩
  case round =>
    clear hA3 hB3 hC3 hL3
    obtain ⟨k, B, hk, -, hlen, hv3, hBn, hA3, hB3, hC3, hL3⟩ := hrel
    obtain ⟨m, hm⟩ : ∃ m, N - 64 * k = m := ⟨_, rfl⟩
    have hml : (xs.drop (64 * k)).length = m := by simp [hN, hm]
    obtain ⟨a, cap, rfl, hmc, hcm⟩ := hv3.shp hml
    have hmi : (m : Int) ≤ 9223372036854775807 := by omega
    have hks : (blks2 s0 xs (k + 1)) = blk2 (blks2 s0 xs k) ((xs.drop (64 * k)).take 64) := rfl
    have HK := Away.mk hks
    have hSo := blks2_ok hs0 xs k
    obtain ⟨S, hS⟩ : ∃ S, blks2 s0 xs k = S := ⟨_, rfl⟩
    rw [hS] at hB3 HK hSo
    have HS := Away.mk hS
    clear hks hS
    have i5S : (Tryd.prog.info? 65).map (·.size) = some (C .u32 S.list).toArray.size := i8
    by_cases h64 : 64 ≤ m
    · have hQn : ((xs.drop (64 * k)).take 64).length = 64 := by rw [List.length_take, hml]; omega
      have hQl : Lo 256 ((xs.drop (64 * k)).take 64) := (hx.drop _).take _
      obtain ⟨b, off, rfl, hbl, hcx⟩ := hv3.cells (by rw [C_length]; omega)
      have hcut := hv3.cutIf 64 (m - 64) (by omega)
      simp only [Option.map_some, Addr.add_lit] at hcut
      rw [← C_drop, ← C_take, List.drop_drop, List.take_of_length_le (by simp; omega), show 64 * k + 64 = 64 * (k + 1) by omega] at hcut
      obtain ⟨T, hT⟩ : ∃ T, blk2 S ((xs.drop (64 * k)).take 64) = T := ⟨_, rfl⟩
      rw [hT] at HK
      have hcat : (C .u8 (xs.drop (64 * k))).take 64 ++ (C .u8 B).drop m = C .u8 ((xs.drop (64 * k)).take 64) := by
        rw [List.drop_of_length_le (show (C .u8 B).length ≤ m by rw [C_length]; omega), List.append_nil, C_take]
      have hvr := hv3.below hL3
      generalize (xs.drop (64 * k)).take 64 = Q at *
      have HT := Away.mk hT
      have HQ := Away.mk hcat
      have HC := Away.mk hcut
      clear hT hcat hcut hlen hcx
      have i5T : (Tryd.prog.info? 65).map (·.size) = some (C .u32 T.list).length := i8
      have h5T : (C .u32 S.list).length = (C .u32 T.list).length := rfl
      have hl64 : (Tryd.prog.info? 47).map (·.size) = some (C .u8 Q).toArray.size := by rw [C_size, hQn]; exact i64
      have hBn' : (C .u8 B).length = 64 := by rw [C_length, hBn]
      have h64i : (64 : Int) ≤ (m : Int) := by omega
      go_wp2_with (first | (refine wpList_copy_R rfl _ _ 22 rfl 5 Tryd.underlying22 i1b (w.heap.size + 1 + 1) 64 64 m (C .u8 B) (C .u8 (xs.drop (64 * k))) (some ⟨b, off, none⟩) cap rfl rfl hC3 hvr hBn' (C_allL _ _) ?_; intro w4 hC4 hg4 hz4; rw [HQ.out] at hC4; have hA4 := hA3.grown hg4 (by simp <;> omega); have hB4 := hB3.grown hg4 (by simp <;> omega); have hL4 := below_grown hL3 hg4 (by omega) hC3.lt) | refine wpList_load_row rfl 65 _ rfl _ rfl _ _ _ _ hB4 Tryd.underlying65 rfl i5S ?_ | refine wpList_load_row rfl 47 _ rfl _ rfl _ _ _ _ hC4 Tryd.underlying47 rfl hl64 ?_)
      refine (block_any S hSo Q hQl hQn _ (hTab.below hL4)).mono ?_
      rintro _ w5 ⟨rfl, hb5⟩
      rw [HT.out]
      have hA5 := hA4.belowS hb5
      have hB5 := hB4.belowS hb5
      have hC5 := hC4.belowS hb5
      have hL5 := hL4.trans (hb5.mono hL4.size)
      have hlt5 := hB5.lt
      clear hA3 hB3 hC3 hL3 hA4 hB4 hC4 hL4 hg4 hz4 hb5 hvr
      go_wp2_with (refine wpList_store_R rfl 65 _ _ rfl _ (C .u32 T.list) rfl rfl hB5 i5T h5T (C_allL _ _) ?_; intro w6 hB6 hg6 hz6; have hA6 := hA5.grown hg6 (by simp <;> omega); have hC6 := hC5.grown hg6 (by simp <;> omega); have hL6 := below_grown hL5 hg6 (by omega) hlt5)
      refine ⟨⟨k + 1, Q, by omega, trivial, by simp only [lenS]; omega, HC.out, hQn, hA6, by rw [HK.out]; exact hB6, hC6, hL6⟩, by simp only [lenS]; omega⟩
    · have hk64 : k = N / 64 := by omega
      have HE : Away (beh2 s0 xs = fin2 (blks2 s0 xs (xs.length / 64)) (xs.drop (64 * (xs.length / 64))) (8 * xs.length % 18446744073709551616)) := ⟨rfl⟩
      rw [hN, ← hk64, HS.out] at HE
      have d64 : decide ((64 : Int) ≤ (m : Int)) = false := decide_eq_false (by omega)
      have hlo := hx.drop (64 * k)
      generalize xs.drop (64 * k) = l at *
      obtain ⟨c, hc⟩ : ∃ c, 8 * N % 18446744073709551616 = c := ⟨_, rfl⟩
      have HCc := Away.mk hc
      rw [hc] at HE
      clear hc hk64 hlen
      have hvr := hv3.below hL3
      go_wp2_with (refine wpList_load_row rfl 65 _ rfl _ rfl _ _ _ _ hB3 Tryd.underlying65 rfl i5S ?_)
      refine (ended_any S hSo _ l N wr hvr hlo (by omega) hNm (hTab.below hL3)).mono ?_
      rintro _ w4 ⟨rfl, hb4⟩
      rw [HCc.out]
      have hA4 := hA3.belowS hb4
      have hL4 := hL3.trans (hb4.mono hL3.size)
      have hlt5 := hA4.lt
      clear hA3 hB3 hC3 hL3 hb4 hvr
      generalize fin2 S l c = F at *
      have i8F : (Tryd.prog.info? 65).map (·.size) = some (C .u32 F.list).length := i8
      have h8F : (C .u32 (Z 8)).length = (C .u32 F.list).length := rfl
      go_wp2_with (refine wpList_store_R rfl 65 _ _ rfl _ (C .u32 F.list) rfl rfl hA4 i8F h8F (C_allL _ _) ?_; intro w7 hB8 hg8 hz8)
      exact result_row Tryd.results34 rfl hB8 Tryd.underlying65 rfl i8F rfl ⟨by rw [HE.out], below_grown hL4 hg8 (by omega) hlt5⟩

theorem sum256_any (v : Value) (xs : List Nat) (w : World) (hv : SlV w v (C .u8 xs)) (hx : Lo 256 xs) (hTab : Tab w) :
    Calls Tryd.prog 20 #[v] w fun e w' => e = .returned (.agg (C .u8 (sum2 true xs)).toArray) ∧ Below w.heap.size w w' := by
  have HE := Away.mk (sum2_eq true xs)
  have hA := Row.new w 43 (C .u8 (Z 32))
  have hL := (Below.more (Below.refl w.heap.size w) (Nat.le_refl _) (.cells (C .u8 (Z 32)).toArray 43)).1
  go_enter Tryd.func20, Tryd.ntmps20
  go_wp2_with (refine wpList_alloc_row rfl 43 rfl _ z32 ?_)
  refine (start_any true _).mono ?_
  rintro _ w1 ⟨rfl, hb1⟩
  have hA1 := hA.belowS hb1
  have hL1 := hL.trans (hb1.mono hL.size)
  clear hA hL hb1
  go_wp2_with fail
  refine (behind_any _ (start2_ok true) v xs _ (hv.below hL1) hx (hTab.below hL1)).mono ?_
  rintro _ w2 ⟨rfl, hb2⟩
  have hA2 := hA1.belowS hb2
  have hL2 := hL1.trans (hb2.mono hL1.size)
  clear hA1 hL1 hb2
  have hFo := beh2_ok (start2 true) xs
  generalize beh2 (start2 true) xs = F at *
  go_wp2_with fail
  refine (written_any F hFo _).mono ?_
  rintro _ w3 ⟨rfl, hb3⟩
  have hA3 := hA2.belowS hb3
  have hL3 := hL2.trans (hb3.mono hL2.size)
  have hlt3 := hA3.lt
  have hOn := out2_length F
  generalize out2 F = O at *
  have i32O : (Tryd.prog.info? 43).map (·.size) = some (C .u8 O).length := by rw [C_length, hOn]; exact i32
  have h32O : (C .u8 (Z 32)).length = (C .u8 O).length := by rw [C_length, C_length, hOn, Z_length]
  clear hA2 hL2 hb3
  go_wp2_with (refine wpList_store_R rfl 43 _ _ rfl _ (C .u8 O) rfl rfl hA3 i32O h32O (C_allL _ _) ?_; intro w7 hB8 hg8 hz8)
  exact result_row Tryd.results20 rfl hB8 Tryd.underlying43 rfl i32O rfl ⟨by rw [HE.out], below_grown hL3 hg8 (by omega) hlt3⟩

theorem sum224_any (v : Value) (xs : List Nat) (w : World) (hv : SlV w v (C .u8 xs)) (hx : Lo 256 xs) (hTab : Tab w) :
    Calls Tryd.prog 23 #[v] w fun e w' => e = .returned (.agg (C .u8 ((sum2 false xs).take 28)).toArray) ∧ Below w.heap.size w w' := by
  have HE := Away.mk (sum2_eq false xs)
  have hA := (Row.new w 49 (C .u8 (Z 28))).alloc (.cells (C .u8 (Z 28)).toArray 49)
  have hD := Row.newAt (w.alloc (.cells (C .u8 (Z 28)).toArray 49)) (w.heap.size + 1) (by simp) 49 (C .u8 (Z 28))
  have hL0 := Below.more (Below.refl w.heap.size w) (Nat.le_refl _) (.cells (C .u8 (Z 28)).toArray 49)
  have hL := (Below.more hL0.1 hL0.2 (.cells (C .u8 (Z 28)).toArray 49)).1
  clear hL0
  go_enter Tryd.func23, Tryd.ntmps23
  go_wp2_with (refine wpList_alloc_row rfl 49 rfl _ z28 ?_)
  generalize (w.alloc (.cells (C .u8 (Z 28)).toArray 49)).alloc (.cells (C .u8 (Z 28)).toArray 49) = w0 at *
  refine (start_any false _).mono ?_
  rintro _ w1 ⟨rfl, hb1⟩
  have hA1 := hA.belowS hb1
  have hD1 := hD.belowS hb1
  have hL1 := hL.trans (hb1.mono hL.size)
  clear hA hD hL hb1
  go_wp2_with fail
  refine (behind_any _ (start2_ok false) v xs _ (hv.below hL1) hx (hTab.below hL1)).mono ?_
  rintro _ w2 ⟨rfl, hb2⟩
  have hA2 := hA1.belowS hb2
  have hD2 := hD1.belowS hb2
  have hL2 := hL1.trans (hb2.mono hL1.size)
  clear hA1 hD1 hL1 hb2
  have hFo := beh2_ok (start2 false) xs
  generalize beh2 (start2 false) xs = F at *
  go_wp2_with fail
  refine (written_any F hFo _).mono ?_
  rintro _ w3 ⟨rfl, hb3⟩
  have hA3 := hA2.belowS hb3
  have hD3 := hD2.belowS hb3
  have hL3 := hL2.trans (hb3.mono hL2.size)
  have hltA := hA3.lt
  have hltD := hD3.lt
  have hOn := out2_length F
  generalize out2 F = O at *
  have i32O : (Tryd.prog.info? 43).map (·.size) = some (C .u8 O).length := by rw [C_length, hOn]; exact i32
  have h32O : (C .u8 (Z 32)).length = (C .u8 O).length := by rw [C_length, C_length, hOn, Z_length]
  clear hA2 hD2 hL2 hb3
  have hE3 := Row.new w3 43 (C .u8 (Z 32))
  have hA3' := hA3.alloc (.cells (C .u8 (Z 32)).toArray 43)
  have hD3' := hD3.alloc (.cells (C .u8 (Z 32)).toArray 43)
  have hL3' := Below.more hL3 hL3.size (.cells (C .u8 (Z 32)).toArray 43)
  go_upto_region 3 with (first | refine wpList_alloc_row rfl 43 rfl _ z32 ?_ | (refine wpList_store_R rfl 43 _ _ rfl _ (C .u8 O) rfl rfl hE3 i32O h32O (C_allL _ _) ?_; intro w5 hE5 hg5 hz5))
  have hA4 := hA3'.grown hg5 (by simp <;> omega)
  have hD4 := hD3'.grown hg5 (by simp <;> omega)
  have hL4 := below_grown hL3'.1 hg5 (by omega) hE3.lt
  clear hE3 hA3' hD3' hL3' hA3 hD3 hL3 hg5 hz5
  obtain ⟨g4, hg4⟩ : ∃ g4, w3.heap.size = g4 := ⟨_, rfl⟩
  simp only [Act.put, List.setIfInBounds_toArray, List.set_cons_zero, List.set_cons_succ]
  rw [hg4] at hE5 hltA hltD ⊢
  clear hg4
  refine wp_region_noPanic ?_
  refine wp_region_held_drew (S := fun _ => True) (by kernel_rfl) (trivial) (fun hHeld => ?_)
  refine wpAnyH_takeL (i := 0) (v := ?v0) rfl (by kernel_rfl) (by kernel_rfl) (by kernel_rfl) (fun _ _ _ h => h) (by rfl) ?h0 (by assumption) ?_
  case h0 => intro w hSw; go_simp <;> with_reducible rfl
  simp only [Act.put, List.setIfInBounds_toArray, List.set_cons_zero, List.set_cons_succ]
  refine wpAnyH_takeL (i := 1) (v := ?v1) rfl (by kernel_rfl) (by kernel_rfl) (by kernel_rfl) (fun _ _ _ h => h) (by rfl) ?h1 (by assumption) ?_
  case h1 => intro w hSw; go_simp <;> with_reducible rfl
  simp only [Act.put, List.setIfInBounds_toArray, List.set_cons_zero, List.set_cons_succ]
  refine allReadyH_oneL (i := 2) (by kernel_rfl) rfl (by rfl) (fun K hK => ?_)
  refine wp_copy_R _ _ 22 rfl 5 Tryd.underlying22 i1b (w.heap.size + 1) 28 28 g4 32 32 (C .u8 (Z 28)) (C .u8 O) rfl rfl hD4.drew hE5.drew rfl (by rw [C_length, hOn]) (by decide) (C_allL _ _) ?_
  intro w6 hD6 hg6 hz6
  refine hK.out _ _ (trivial) (fun hHeld => ?_)
  clear hK K
  refine wpAnyH_done (by kernel_rfl) ?_ _
  refine NoPanic.normal ?_
  have hA6 := hA4.drew.grown hg6 (by simp <;> omega)
  have hL6 := below_grown hL4.drew hg6 (by omega) hD4.lt
  have hltA6 := hA6.lt
  have hO28 : (O.take 28).length = 28 := by rw [List.length_take, hOn]; rfl
  rw [← C_take] at hD6
  obtain ⟨U, hU⟩ : ∃ U, O.take 28 = U := ⟨_, rfl⟩
  rw [hU] at hD6 hO28
  have HU := Away.mk hU
  have i28U : (Tryd.prog.info? 49).map (·.size) = some (C .u8 U).length := by rw [C_length, hO28]; exact i28
  have i28U' : (Tryd.prog.info? 49).map (·.size) = some (C .u8 U).toArray.size := by rw [C_size, hO28]; exact i28
  have h28U : (C .u8 (Z 28)).length = (C .u8 U).length := by rw [C_length, C_length, hO28, Z_length]
  clear hU hA4 hD4 hE5 hL4
  go_wp2_with (first | refine wpList_load_row rfl 49 _ rfl _ rfl _ _ _ _ hD6 Tryd.underlying49 rfl i28U' ?_ | (refine wpList_store_R rfl 49 _ _ rfl _ (C .u8 U) rfl rfl hA6 i28U h28U (C_allL _ _) ?_; intro w7 hB8 hg8 hz8))
  exact result_row Tryd.results23 rfl hB8 Tryd.underlying49 rfl i28U rfl ⟨by rw [HE.out, HU.out], below_grown hL6 hg8 (by omega) hltA6⟩
end Go.Proofs.YtmbaenodibfedaaDoor.S2
