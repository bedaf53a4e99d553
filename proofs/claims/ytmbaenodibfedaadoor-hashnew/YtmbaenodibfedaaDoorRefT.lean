/-
  The contract of the document's Sum of the first hash, over this seat's translation. Conditions: at most 10^12 bytes.
-/
import Derived.Test.YtmbaenodibfedaaDoorRefS
namespace Go.Proofs.YtmbaenodibfedaaDoor.S1
open Go.RowKit
set_option linter.unusedVariables false
set_option maxRecDepth 10000

theorem pad1_lo {xs : List Nat} (h : Lo 256 xs) : Lo 256 (pad1 xs) := by
  unfold pad1
  refine h.append ?_
  intro x hx
  rcases List.mem_cons.1 hx with rfl | hx
  · decide
  · rcases List.mem_append.1 hx with hx | hx
    · rw [List.eq_of_mem_replicate hx]; decide
    · exact be8_lo _ x hx

set_option maxHeartbeats 1600000 in
theorem refsum_any (v : Value) (xs : List Nat) (w : World) (hv : SlV w v (C .u8 xs)) (hx : Lo 256 xs) (hm : xs.length ≤ 1000000000000) :
    Calls Tryd.prog 24 #[v] w fun e w' => e = .returned (.agg (C .u8 (sum1 xs)).toArray) ∧ Below w.heap.size w w' := by
  have hA := Row.new w 41 (C .u8 (Z 20))
  have hL := (Below.more (Below.refl w.heap.size w) (Nat.le_refl _) (.cells (C .u8 (Z 20)).toArray 41)).1
  go_enter Tryd.func24, Tryd.ntmps24
  go_wp2_with (refine wpList_alloc_row rfl 41 rfl _ z20 ?_)
  refine (refstart_any _).mono ?_
  rintro _ w1 ⟨rfl, hb1⟩
  have hA1 := hA.belowS hb1
  have hL1 := hL.trans (hb1.mono hL.size)
  have hlt1 := hA1.lt
  clear hA hL hb1
  have i5s : (Tryd.prog.info? 59).map (·.size) = some (C .u32 start1.list).length := i5
  have h55 : (C .u32 (Z 5)).length = (C .u32 start1.list).length := rfl
  have hB1 := Row.new w1 59 (C .u32 (Z 5))
  have hA1' := hA1.alloc (.cells (C .u32 (Z 5)).toArray 59)
  have hL1' := Below.more hL1 hL1.size (.cells (C .u32 (Z 5)).toArray 59)
  go_upto_region 2 with (first | refine wpList_alloc_row rfl 59 rfl _ z5 ?_ | (refine wpList_store_R rfl 59 _ _ rfl _ (C .u32 start1.list) rfl rfl hB1 i5s h55 (C_allL _ _) ?_; intro w2 hB2 hg2 hz2))
  have hA2 := hA1'.grown hg2 (by simp; omega)
  have hL2 := below_grown hL1'.1 hg2 (by omega) hB1.lt
  clear hB1 hA1' hL1' hA1 hg2 hz2 hL1
  obtain ⟨g1, hg1⟩ : ∃ g1, w1.heap.size = g1 := ⟨_, rfl⟩
  simp only [Act.put, List.setIfInBounds_toArray, List.set_cons_zero, List.set_cons_succ]
  rw [hg1] at hB2 hlt1 ⊢
  clear hg1
  go_wp2_with fail
  refine (padded_any v xs w2 (hv.below hL2) hx hm).mono ?_
  rintro _ w3 ⟨v3, n3, rfl, hO3, hb3⟩
  have hA3 := hA2.belowS hb3
  have hB3 := hB2.belowS hb3
  have hL3 := hL2.trans (hb3.mono hL2.size)
  obtain ⟨N, hN⟩ : ∃ N, (pad1 xs).length = N := ⟨_, rfl⟩
  have hN64 : ∃ q, N = 64 * q ∧ 0 < q ∧ q ≤ 1000000000000 := by
    rw [← hN, pad1_length]
    refine ⟨_, rfl, ?_⟩
    split <;> omega
  obtain ⟨q, hq, hq0, hqm⟩ := hN64
  have HE : Away (sum1 xs = out1 (blks1 start1 (pad1 xs) q)) := ⟨by rw [sum1, hN, hq, Nat.mul_div_cancel_left _ (by decide)]⟩
  have hPl := pad1_lo hx
  generalize pad1 xs = P at *
  have hn3 : n3 = N := by have := hO3.1; rw [C_length, hN, Nat.mul_one] at this; omega
  subst hn3
  have HQ := Away.mk hq
  have hNm : n3 ≤ 64 * 1000000000000 := by omega
  have hN0 : 0 < n3 := by omega
  clear hq
  obtain ⟨g, cap, rfl, hbg, hgl, hnc, hcm⟩ := own_shape hO3 hN0
  have hP3 := SlV.ofOwn hO3
  have hlt2 := hB2.lt
  clear hO3 hA2 hB2 hL2 hb3
  have hNi : (n3 : Int) ≤ 9223372036854775807 := by omega
  go_wp2
  go_loopw [5] (fun i wr => ∃ k : Nat, k ≤ q ∧ i = .int .i64 ((64 * k : Nat) : Int) ∧ SlV wr (.slice (some ⟨g, 0, none⟩) n3 cap) (C .u8 P) ∧ Row wr w.heap.size 41 (C .u8 (Z 20)) ∧ Row wr g1 59 (C .u32 (blks1 start1 P k).list) ∧ Below w.heap.size w wr) (fun i _ => n3 - (intOf i).toNat)
  case atStart => exact ⟨0, Nat.zero_le _, rfl, hP3, hA3, hB3, hL3⟩
  case round =>
    clear hP3 hA3 hB3 hL3
    obtain ⟨k, hk, rfl, hP, hA, hB, hL⟩ := hrel
    have HK : Away (blks1 start1 P (k + 1) = blk1 (blks1 start1 P k) ((P.drop (64 * k)).take 64)) := ⟨rfl⟩
    have hSo := blks1_ok start1_ok P k
    obtain ⟨S, hS⟩ : ∃ S, blks1 start1 P k = S := ⟨_, rfl⟩
    rw [hS] at hB HK hSo
    have HS := Away.mk hS
    clear hS
    have i5S : (Tryd.prog.info? 59).map (·.size) = some (C .u32 S.list).length := i5
    by_cases hkq : k < q
    · have hq := HQ.out
      obtain ⟨m, hm64⟩ : ∃ m, 64 * k = m := ⟨_, rfl⟩
      obtain ⟨m2, hm2⟩ : ∃ m2, m + 64 = m2 := ⟨_, rfl⟩
      have hBn : ((P.drop (64 * k)).take 64).length = 64 := by simp; omega
      have hBl : Lo 256 ((P.drop (64 * k)).take 64) := (hPl.drop _).take _
      have hcut := hP.cutIf m 64 (by omega)
      rw [← C_drop, ← C_take, ← hm64] at hcut
      obtain ⟨T, hT⟩ : ∃ T, blk1 S ((P.drop (64 * k)).take 64) = T := ⟨_, rfl⟩
      rw [hT] at HK
      generalize (P.drop (64 * k)).take 64 = B at *
      rw [hm64] at hcut ⊢
      have HT := Away.mk hT
      have i5T : (Tryd.prog.info? 59).map (·.size) = some (C .u32 T.list).length := i5
      have h5T : (C .u32 S.list).length = (C .u32 T.list).length := rfl
      have dw : IntKind.i64.wrap ((m : Int) + 64) = (m2 : Int) := by rw [IntWalk.i64_in _ ⟨by omega, by omega⟩]; omega
      have b1 : (m : Int) < (n3 : Int) := by omega
      have b2 : (m2 : Int) ≤ (cap : Int) := by omega
      have b3 : (m : Int) ≤ (m2 : Int) := by omega
      have b4 : m2 - m = 64 := by omega
      have b5 : (m2 : Int) ≤ (n3 : Int) := by omega
      clear hT hq
      have HM := Away.mk hm64
      have HM2 := Away.mk hm2
      clear hm64 hm2
      simp only [Option.map_some, Addr.add_lit, Nat.zero_add] at hcut
      have hcd : SlV wr.drew _ _ := hcut.keep fun _ _ _ => rfl
      have hPd : SlV wr.drew _ _ := hP.keep fun _ _ _ => rfl
      go_upto_region 6 with fail
      refine wp_region_noPanic ?_
      refine wp_region_U (S := fun w' => Row w' g1 59 (C .u32 S.list)) 7 (by kernel_rfl) (hB.drew) (fun hHeld => ?_)
      refine wpAnyU_takeL (i := 0) (v := (.agg (C .u32 S.list).toArray)) rfl (by kernel_rfl) (by kernel_rfl) (by kernel_rfl) (by kernel_rfl) (fun _ _ _ h => h) (by rfl) ?h0 (by assumption) ?_
      case h0 => intro w hSw; exact exec_load_R 59 _ rfl rfl hSw Tryd.underlying59 i5S
      simp only [Act.put, List.setIfInBounds_toArray, List.set_cons_zero, List.set_cons_succ]
      refine wpAnyU_takeL (i := 1) (v := ?v1) rfl (by kernel_rfl) (by kernel_rfl) (by kernel_rfl) (by kernel_rfl) (fun _ _ _ h => h) (by rfl) ?h1 (by assumption) ?_
      case h1 => intro w hSw; go_simp <;> with_reducible rfl
      simp only [Act.put, List.setIfInBounds_toArray, List.set_cons_zero, List.set_cons_succ]
      refine wpAnyU_takeL (i := 2) (v := ?v2) rfl (by kernel_rfl) (by kernel_rfl) (by kernel_rfl) (by kernel_rfl) (fun _ _ _ h => h) (by rfl) ?h2 (by assumption) ?_
      case h2 => intro w hSw; go_simp <;> with_reducible rfl
      simp only [Act.put, List.setIfInBounds_toArray, List.set_cons_zero, List.set_cons_succ]
      refine wpAnyU_takeL (i := 3) (v := ?v3) rfl (by kernel_rfl) (by kernel_rfl) (by kernel_rfl) (by kernel_rfl) (fun _ _ _ h => h) (by rfl) ?h3 (by assumption) ?_
      case h3 => intro w hSw; go_simp <;> with_reducible rfl
      simp only [Act.put, List.setIfInBounds_toArray, List.set_cons_zero, List.set_cons_succ]
      refine wpAnyU_takeL (i := 4) (v := ?v4) rfl (by kernel_rfl) (by kernel_rfl) (by kernel_rfl) (by kernel_rfl) (fun _ _ _ h => h) (by rfl) ?h4 (by assumption) ?_
      case h4 => intro w hSw; go_simp <;> with_reducible rfl
      simp only [Act.put, List.setIfInBounds_toArray, List.set_cons_zero, List.set_cons_succ]
      refine wpAnyU_takeL (i := 5) (v := ?v5) rfl (by kernel_rfl) (by kernel_rfl) (by kernel_rfl) (by kernel_rfl) (fun _ _ _ h => h) (by rfl) ?h5 (by assumption) ?_
      case h5 => intro w hSw; go_simp <;> with_reducible rfl
      simp only [Act.put, List.setIfInBounds_toArray, List.set_cons_zero, List.set_cons_succ]
      refine wpAnyU_oneL (i := 6) (by kernel_rfl) rfl (by rfl) (fun K hK => ?_)
      go_simp
      refine (refblock_any S hSo _ B _ hcd hBl hBn).mono ?_
      rintro _ w6 ⟨rfl, hb6⟩
      rw [HT.out]
      have hA6 := hA.drew.belowS hb6
      have hB6 := hB.drew.belowS hb6
      have hL6 := hL.drew.trans (hb6.mono hL.size)
      have hP6 := hPd.below hb6
      clear hb6
      refine hK.out _ _ (fun _ => hB6) (fun hHeld => ?_)
      clear hK K
      refine wpAnyU_oneL (i := 7) (by kernel_rfl) rfl (by rfl) (fun K hK => ?_)
      refine wp_store_R 59 _ _ rfl g1 (C .u32 T.list) rfl rfl hB6 i5T h5T (C_allL _ _) ?_
      intro w7 hB7 hg7 hz7
      refine hK.out _ _ (fun h => absurd rfl h) (fun hHeld => ?_)
      clear hK K
      refine wpAnyU_done (by kernel_rfl) ?_ _
      refine NoPanic.normal ?_
      have hA7 := hA6.grown hg7 (by simp; omega)
      have hL7 := below_grown hL6 hg7 (by omega) hB6.lt
      have hP7 := hP6.grown hg7 (fun b hb => by simp [Value.ownBlock] at hb; subst hb; simp; omega)
      rw [← HK.out] at hB7
      have G1 := Away.mk hP7
      have G2 := Away.mk hA7
      have G3 := Away.mk hB7
      have G4 := Away.mk hL7
      clear hA hB hL hP hA6 hB6 hL6 hP6 hA7 hB7 hL7 hP7 hcut hcd hPd hg7 hz7 b4
      go_wp2
      go_roundw
      case rel => exact ⟨k + 1, by omega, by rw [show ((64 * (k + 1) : Nat) : Int) = (m2 : Int) by have := HM.out; have := HM2.out; omega], G1.out, G2.out, G3.out, G4.out⟩
      case measure =>
        have := HM.out; have := HM2.out
        simp [intOf]; omega
    · have HKq : Away (k = q) := ⟨by omega⟩
      rw [HKq.out] at HS
      rw [HS.out] at HE
      obtain ⟨m, hm64⟩ : ∃ m, 64 * k = m := ⟨_, rfl⟩
      rw [hm64]
      have b1 : ¬ (m : Int) < (n3 : Int) := by have := HKq.out; have := HQ.out; omega
      have hN1 := Row.new wr 41 (C .u8 (Z 20))
      have hL1 := Below.more hL hL.size (.cells (C .u8 (Z 20)).toArray 41)
      have hA1 := hA.alloc (.cells (C .u8 (Z 20)).toArray 41)
      have hB1 := hB.alloc (.cells (C .u8 (Z 20)).toArray 41)
      have i20Z : (Tryd.prog.info? 41).map (·.size) = some (C .u8 (Z 20)).length := by rw [C_length, Z_length]; exact i20
      clear hm64
      go_upto_region 8 with (first | refine wpList_build_Z rfl 41 rfl _ b20 ?_ | refine wpList_alloc_row rfl 41 rfl _ z20 ?_ | (refine wpList_store_R rfl 41 _ _ rfl _ (C .u8 (Z 20)) rfl rfl hN1 i20Z rfl (C_allL _ _) ?_; intro w5 hV5 hg5 hz5))
      have hAlt := hA.lt
      have hBlt := hB.lt
      have hA5 := hA1.grown hg5 (by simp; omega)
      have hB5 := hB1.grown hg5 (by simp; omega)
      have hL5 := below_grown hL1.1 hg5 hL.size hN1.lt
      obtain ⟨gv, hgv⟩ : ∃ gv, wr.heap.size = gv := ⟨_, rfl⟩
      simp only [Act.put, List.setIfInBounds_toArray, List.set_cons_zero, List.set_cons_succ]
      rw [hgv] at hV5 hAlt hBlt ⊢
      clear hN1 hL1 hA1 hB1 hg5 hz5 hA hB hL hP hgv
      go_wp2
      go_loopw [7] (fun i wr => ∃ k : Nat, k ≤ 20 ∧ i = .int .i64 k ∧ Row wr g1 59 (C .u32 S.list) ∧ Row wr w.heap.size 41 (C .u8 (Z 20)) ∧ Row wr gv 41 (C .u8 (upto (out1 S) 20 k)) ∧ Below w.heap.size w wr) (fun i _ => 20 - (intOf i).toNat)
      case atStart => exact ⟨0, Nat.zero_le _, rfl, hB5, hA5, by rw [upto_zero]; exact hV5, hL5⟩
      case round =>
        clear hB5 hA5 hV5 hL5
        obtain ⟨k, hk, rfl, hA, hB, hC, hL⟩ := hrel
        by_cases hlt : k < 20
        · have hc := hA.cell (k / 4)
          rw [C_get .u32 (show k / 4 < S.list.length by simp [S5.list]; omega)] at hc
          have HG := Away.mk (out1_get S (k / 4) (k % 4) (by omega) (by omega))
          have HK : Away (4 * (k / 4) + k % 4 = k) := ⟨by omega⟩
          rw [HK.out] at HG
          have hx := list_lt hSo (k / 4)
          generalize S.list.getD (k / 4) 0 = x at *
          have hct : ∃ u, wr.cell? ⟨gv, k, none⟩ = some u := by
            rw [hC.cell, C_get .u8 (by rw [upto_length (out1_length S) (by omega)]; omega)]; exact ⟨_, rfl⟩
          obtain ⟨u, hct⟩ := hct
          have hf := hC.frozen k
          have hr4 : k % 4 = 0 ∨ k % 4 = 1 ∨ k % 4 = 2 ∨ k % 4 = 3 := by omega
          rcases hr4 with hr | hr | hr | hr
          · have hri : (k : Int) % 4 = 0 := by omega
            rw [hr] at HG
            go_wp2
            go_roundw
            case rel => exact ⟨k + 1, by omega, by go_num, hA.other _ (by omega), hB.other _ (by omega), upto_row hC (out1_length S) hlt (by rw [HG.out]; simp <;> omega), hL.setCell (by simp; omega) _⟩
            case measure => simp [intOf]; omega
          · have hri : (k : Int) % 4 = 1 := by omega
            rw [hr] at HG
            go_wp2
            go_roundw
            case rel => exact ⟨k + 1, by omega, by go_num, hA.other _ (by omega), hB.other _ (by omega), upto_row hC (out1_length S) hlt (by rw [HG.out]; simp <;> omega), hL.setCell (by simp; omega) _⟩
            case measure => simp [intOf]; omega
          · have hri : (k : Int) % 4 = 2 := by omega
            rw [hr] at HG
            go_wp2
            go_roundw
            case rel => exact ⟨k + 1, by omega, by go_num, hA.other _ (by omega), hB.other _ (by omega), upto_row hC (out1_length S) hlt (by rw [HG.out]; simp <;> omega), hL.setCell (by simp; omega) _⟩
            case measure => simp [intOf]; omega
          · have hri : (k : Int) % 4 = 3 := by omega
            rw [hr] at HG
            go_wp2
            go_roundw
            case rel => exact ⟨k + 1, by omega, by go_num, hA.other _ (by omega), hB.other _ (by omega), upto_row hC (out1_length S) hlt (by rw [HG.out]; simp <;> omega), hL.setCell (by simp; omega) _⟩
            case measure => simp [intOf]; omega
        · have HK20 : Away (k = 20) := ⟨by omega⟩
          rw [HK20.out, upto_all (out1_length S)] at hC
          have hlt2 := hB.lt
          have hk20 : ¬ (k : Int) < 20 := by omega
          have hOn := out1_length S
          generalize out1 S = O at *
          have i20O : (Tryd.prog.info? 41).map (·.size) = some (C .u8 O).length := by rw [C_length, hOn]; exact i20
          have i20O' : (Tryd.prog.info? 41).map (·.size) = some (C .u8 O).toArray.size := by rw [C_size, hOn]; exact i20
          have h20O : (C .u8 (Z 20)).length = (C .u8 O).length := by rw [C_length, C_length, hOn, Z_length]
          go_wp2_with (first | refine wpList_load_row rfl 41 _ rfl _ rfl _ _ _ _ hC Tryd.underlying41 rfl i20O' ?_ | (refine wpList_store_R rfl 41 _ _ rfl _ (C .u8 O) rfl rfl hB i20O h20O (C_allL _ _) ?_; intro w7 hB8 hg8 hz8))
          exact result_row Tryd.results24 rfl hB8 Tryd.underlying41 rfl i20O rfl ⟨by rw [HE.out], below_grown hL hg8 (by omega) hlt2⟩
end Go.Proofs.YtmbaenodibfedaaDoor.S1
