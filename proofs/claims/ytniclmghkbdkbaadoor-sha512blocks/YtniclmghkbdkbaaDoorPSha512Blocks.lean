/-
  Proved: for every block b of 128 bytes the law Sha512Blocks returns true, and its argument reads as before. No conditions of ours; the package's variable starts as its initialiser lays it, as the given card ties it.
-/
import Derived.Test.YtniclmghkbdkbaaDoorRows
import Derived.Test.YtniclmghkbdkbaaDoorCards
import Derived.Test.YtniclmghkbdkbaaDoorTie
import Derived.SevenTiedAt
import Derived.Test.YtniclmghkbdkbaaDoorLaw3
import Derived.WalkKit
import Derived.ProofKit
import Derived.OpenShut
import Derived.ShutString
import Derived.ChangeOld
import Derived.Below
namespace Go.Proofs.YtniclmghkbdkbaaDoor.sha512Blocks
open Go.ChangeShapes Go.WideShapes Go.ChangeAt Go.RowKit
open Go.ChangeMaps (open_string shut_string)
set_option linter.unusedVariables false

theorem own : ownKnob Tryd.prog.godebug = none := by kernel_rfl
theorem laidOut : laidOutB Tryd.prog = true := by kernel_rfl

set_option maxRecDepth 10000 in
set_option maxHeartbeats 3200000 in
/-- The walk: the law returns true and writes nothing that was there. -/
theorem walk (b : List Nat) (hb : Lo 256 b) (hl : b.length = 128) (w : World) (hTab : S3.Tab w) :
    Calls Tryd.prog 5 #[.agg (C .u8 b).toArray] w fun e w' => e = .returned (.bool true) ∧ Below w.heap.size w w' := by
  have hA0 := (Row.new w 32 (C .u8 b)).alloc (.cells (C .u8 (Z 128)).toArray 32)
  have hB0 := Row.new (w.alloc (.cells (C .u8 b).toArray 32)) 32 (C .u8 (Z 128))
  have hL' := Below.more (Below.refl w.heap.size w) (Nat.le_refl _) (.cells (C .u8 b).toArray 32)
  have hL0 := (Below.more hL'.1 hL'.2 (.cells (C .u8 (Z 128)).toArray 32)).1
  clear hL'
  have iP : (Tryd.prog.info? 32).map (·.size) = some (C .u8 S3.padB).length := by rw [C_length, S3.padB_length]; exact S3.i128
  have hZP : (C .u8 (Z 128)).length = (C .u8 S3.padB).length := by rw [C_length, C_length, S3.padB_length, Z_length]
  have hl64 : (Tryd.prog.info? 32).map (·.size) = some (C .u8 b).length := by rw [C_length, hl]; exact S3.i128
  go_enter Tryd.func5, Tryd.ntmps5
  go_upto_region 2 with (first | refine wpList_build_C rfl 32 #[(0, .const (.int .u8 128)), (126, .const (.int .u8 4))] rfl (C .u8 S3.padB) (S3.bPad' _) ?_ | refine wpList_alloc_row rfl 32 rfl _ S3.z128 ?_ | (refine wpList_store_R rfl 32 _ _ rfl _ (C .u8 S3.padB) rfl rfl hB0 iP hZP (C_allL _ _) ?_; intro w1 hB1 hg1 hz1))
  simp only [Act.put, List.setIfInBounds_toArray, List.set_cons_zero, List.set_cons_succ, alloc_size] at hB1 hg1 ⊢
  have hA1 := hA0.grown hg1 (by simp)
  have hL1 := below_grown hL0 hg1 (by omega) (by simp)
  clear hA0 hB0 hL0 hg1 hz1
  have hA := hA1.drew
  have hB := hB1.drew
  have hL := hL1.drew
  clear hA1 hB1 hL1
  have hdz : w1.drew.heap.size = w1.heap.size := rfl
  obtain ⟨H0, hE0⟩ : ∃ H, S3.start3 true = H := ⟨_, rfl⟩
  obtain ⟨H1, hE1⟩ : ∃ H, S3.blk3 H0 b = H := ⟨_, rfl⟩
  obtain ⟨H2, hE2⟩ : ∃ H, S3.blk3 H1 S3.padB = H := ⟨_, rfl⟩
  have ho0 : H0.ok := hE0 ▸ S3.start3_ok true
  have ho1 : H1.ok := hE1 ▸ S3.blk3_ok _ _
  have ho2 : H2.ok := hE2 ▸ S3.blk3_ok _ _
  have HS : Away (S3.sum3 true b = S3.out3 H2) := ⟨by rw [S3.sum3_one b hl, show S3.startL = S3.start3 true from rfl, hE0, hE1, hE2]⟩
  have HE0 := Away.mk hE0
  have HE1 := Away.mk hE1
  have HE2 := Away.mk hE2
  clear hE0 hE1 hE2
  go_cut [4] (fun v4 wc => ∃ g4, v4 = .pointer (some ⟨g4, 0, none⟩) ∧ Row wc g4 31 (C .u64 H2.list) ∧ w.heap.size < g4 ∧ Row wc w.heap.size 32 (C .u8 b) ∧ Below w.heap.size w wc)
  case first =>
    refine wp_region_noPanic ?_
    refine wp_region_held_drew (S := fun w' => Row w' w.heap.size 32 (C .u8 b) ∧ Row w' (w.heap.size + 1) 32 (C .u8 S3.padB)) (by kernel_rfl) (⟨hA, hB⟩) (fun hHeld => ?_)
    refine wpAnyH_takeL (i := 1) (v := (.agg (C .u8 b).toArray)) rfl (by kernel_rfl) (by kernel_rfl) (by kernel_rfl) (fun _ _ _ h => h) (by rfl) ?h1 (by assumption) ?_
    case h1 => intro w hSw; exact exec_load_R 32 _ rfl rfl hSw.1 Tryd.underlying32 hl64
    simp only [Act.put, List.setIfInBounds_toArray, List.set_cons_zero, List.set_cons_succ]
    refine wpAnyH_takeL (i := 3) (v := (.agg (C .u8 S3.padB).toArray)) rfl (by kernel_rfl) (by kernel_rfl) (by kernel_rfl) (fun _ _ _ h => h) (by rfl) ?h3 (by assumption) ?_
    case h3 => intro w hSw; exact exec_load_R 32 _ rfl rfl hSw.2 Tryd.underlying32 iP
    simp only [Act.put, List.setIfInBounds_toArray, List.set_cons_zero, List.set_cons_succ]
    refine ready_twoL (i := 0) (j := 5) (by kernel_rfl) rfl rfl (by rfl) (by rfl) (fun K hK => ?_) (fun K hK => ?_)
    · go_simp
      refine (S3.start_any true _).mono ?_
      rintro _ x0 ⟨rfl, hb0⟩
      rw [HE0.out]
      replace hA := hA.belowS hb0
      replace hB := hB.belowS hb0
      replace hL := hL.trans (hb0.mono hL.size)
      clear hb0
      refine hK.out _ _ ⟨hA, hB⟩ (fun hHeld => ?_)
      clear hK K
      try simp only [Act.put, List.setIfInBounds_toArray, List.set_cons_zero, List.set_cons_succ]
      refine ready_twoL (i := 2) (j := 5) (by kernel_rfl) rfl rfl (by rfl) (by rfl) (fun K hK => ?_) (fun K hK => ?_)
      · go_simp
        refine (S3.block_any H0 ho0 b hb hl _ (hTab.below hL)).mono ?_
        rintro _ x2 ⟨rfl, hb2⟩
        rw [HE1.out]
        replace hA := hA.belowS hb2
        replace hB := hB.belowS hb2
        replace hL := hL.trans (hb2.mono hL.size)
        clear hb2
        refine hK.out _ _ ⟨hA, hB⟩ (fun hHeld => ?_)
        clear hK K
        try simp only [Act.put, List.setIfInBounds_toArray, List.set_cons_zero, List.set_cons_succ]
        refine ready_twoL (i := 4) (j := 5) (by kernel_rfl) rfl rfl (by rfl) (by rfl) (fun K hK => ?_) (fun K hK => ?_)
        · go_simp
          refine (S3.block_any H1 ho1 S3.padB S3.padB_lo S3.padB_length _ (hTab.below hL)).mono ?_
          rintro _ x4 ⟨rfl, hb4⟩
          rw [HE2.out]
          replace hA := hA.belowS hb4
          replace hB := hB.belowS hb4
          replace hL := hL.trans (hb4.mono hL.size)
          clear hb4
          refine hK.out _ _ ⟨hA, hB⟩ (fun hHeld => ?_)
          clear hK K
          try simp only [Act.put, List.setIfInBounds_toArray, List.set_cons_zero, List.set_cons_succ]
          refine allReadyH_oneL (i := 5) (by kernel_rfl) rfl (by rfl) (fun K hK => ?_)
          refine wp_alloc_R 31 rfl _ S3.z8 ?_
          have hV := Row.new x4 31 (C .u64 (Z 8))
          have hgz := hL.size
          have hBl := hB.lt
          replace hA := hA.alloc (.cells (C .u64 (Z 8)).toArray 31)
          replace hB := hB.alloc (.cells (C .u64 (Z 8)).toArray 31)
          replace hL := hL.alloc hgz (.cells (C .u64 (Z 8)).toArray 31)
          refine hK.out _ _ ⟨hA, hB⟩ (fun hHeld => ?_)
          clear hK K
          try simp only [Act.put, List.setIfInBounds_toArray, List.set_cons_zero, List.set_cons_succ]
          refine allReadyH_oneL (i := 6) (by kernel_rfl) rfl (by rfl) (fun K hK => ?_)
          refine wp_store_R 31 _ _ rfl _ (C .u64 H2.list) rfl rfl hV S3.i8 rfl (C_allL _ _) ?_
          intro w7 hV7 hg7 hz7
          replace hA := hA.grown hg7 (by simp; omega)
          replace hB := hB.grown hg7 (by simp; omega)
          replace hL := below_grown hL hg7 (by omega) hV.lt
          refine hK.out _ _ ⟨hA, hB⟩ (fun hHeld => ?_)
          clear hK K
          refine wpAnyH_done (by kernel_rfl) ?_ _
          refine NoPanic.normal ?_
          go_wp2
          go_meet
          case rel => exact ⟨_, rfl, hV7, by omega, hA, hL⟩
        · refine wp_alloc_R 31 rfl _ S3.z8 ?_
          have hV := Row.new x2 31 (C .u64 (Z 8))
          have hgz := hL.size
          have hBl := hB.lt
          replace hA := hA.alloc (.cells (C .u64 (Z 8)).toArray 31)
          replace hB := hB.alloc (.cells (C .u64 (Z 8)).toArray 31)
          replace hL := hL.alloc hgz (.cells (C .u64 (Z 8)).toArray 31)
          refine hK.out _ _ ⟨hA, hB⟩ (fun hHeld => ?_)
          clear hK K
          try simp only [Act.put, List.setIfInBounds_toArray, List.set_cons_zero, List.set_cons_succ]
          refine allReadyH_oneL (i := 4) (by kernel_rfl) rfl (by rfl) (fun K hK => ?_)
          go_simp
          refine (S3.block_any H1 ho1 S3.padB S3.padB_lo S3.padB_length _ (hTab.below hL)).mono ?_
          rintro _ x4 ⟨rfl, hb4⟩
          rw [HE2.out]
          replace hA := hA.belowS hb4
          replace hB := hB.belowS hb4
          replace hV := hV.belowS hb4
          replace hL := hL.trans (hb4.mono hL.size)
          clear hb4
          refine hK.out _ _ ⟨hA, hB⟩ (fun hHeld => ?_)
          clear hK K
          try simp only [Act.put, List.setIfInBounds_toArray, List.set_cons_zero, List.set_cons_succ]
          refine allReadyH_oneL (i := 6) (by kernel_rfl) rfl (by rfl) (fun K hK => ?_)
          refine wp_store_R 31 _ _ rfl _ (C .u64 H2.list) rfl rfl hV S3.i8 rfl (C_allL _ _) ?_
          intro w7 hV7 hg7 hz7
          replace hA := hA.grown hg7 (by simp; omega)
          replace hB := hB.grown hg7 (by simp; omega)
          replace hL := below_grown hL hg7 (by omega) hV.lt
          refine hK.out _ _ ⟨hA, hB⟩ (fun hHeld => ?_)
          clear hK K
          refine wpAnyH_done (by kernel_rfl) ?_ _
          refine NoPanic.normal ?_
          go_wp2
          go_meet
          case rel => exact ⟨_, rfl, hV7, by omega, hA, hL⟩
      · refine wp_alloc_R 31 rfl _ S3.z8 ?_
        have hV := Row.new x0 31 (C .u64 (Z 8))
        have hgz := hL.size
        have hBl := hB.lt
        replace hA := hA.alloc (.cells (C .u64 (Z 8)).toArray 31)
        replace hB := hB.alloc (.cells (C .u64 (Z 8)).toArray 31)
        replace hL := hL.alloc hgz (.cells (C .u64 (Z 8)).toArray 31)
        refine hK.out _ _ ⟨hA, hB⟩ (fun hHeld => ?_)
        clear hK K
        try simp only [Act.put, List.setIfInBounds_toArray, List.set_cons_zero, List.set_cons_succ]
        refine allReadyH_oneL (i := 2) (by kernel_rfl) rfl (by rfl) (fun K hK => ?_)
        go_simp
        refine (S3.block_any H0 ho0 b hb hl _ (hTab.below hL)).mono ?_
        rintro _ x2 ⟨rfl, hb2⟩
        rw [HE1.out]
        replace hA := hA.belowS hb2
        replace hB := hB.belowS hb2
        replace hV := hV.belowS hb2
        replace hL := hL.trans (hb2.mono hL.size)
        clear hb2
        refine hK.out _ _ ⟨hA, hB⟩ (fun hHeld => ?_)
        clear hK K
        try simp only [Act.put, List.setIfInBounds_toArray, List.set_cons_zero, List.set_cons_succ]
        refine allReadyH_oneL (i := 4) (by kernel_rfl) rfl (by rfl) (fun K hK => ?_)
        go_simp
        refine (S3.block_any H1 ho1 S3.padB S3.padB_lo S3.padB_length _ (hTab.below hL)).mono ?_
        rintro _ x4 ⟨rfl, hb4⟩
        rw [HE2.out]
        replace hA := hA.belowS hb4
        replace hB := hB.belowS hb4
        replace hV := hV.belowS hb4
        replace hL := hL.trans (hb4.mono hL.size)
        clear hb4
        refine hK.out _ _ ⟨hA, hB⟩ (fun hHeld => ?_)
        clear hK K
        try simp only [Act.put, List.setIfInBounds_toArray, List.set_cons_zero, List.set_cons_succ]
        refine allReadyH_oneL (i := 6) (by kernel_rfl) rfl (by rfl) (fun K hK => ?_)
        refine wp_store_R 31 _ _ rfl _ (C .u64 H2.list) rfl rfl hV S3.i8 rfl (C_allL _ _) ?_
        intro w7 hV7 hg7 hz7
        replace hA := hA.grown hg7 (by simp; omega)
        replace hB := hB.grown hg7 (by simp; omega)
        replace hL := below_grown hL hg7 (by omega) hV.lt
        refine hK.out _ _ ⟨hA, hB⟩ (fun hHeld => ?_)
        clear hK K
        refine wpAnyH_done (by kernel_rfl) ?_ _
        refine NoPanic.normal ?_
        go_wp2
        go_meet
        case rel => exact ⟨_, rfl, hV7, by omega, hA, hL⟩
    · refine wp_alloc_R 31 rfl _ S3.z8 ?_
      have hV := Row.new w1.drew 31 (C .u64 (Z 8))
      have hgz := hL.size
      have hBl := hB.lt
      replace hA := hA.alloc (.cells (C .u64 (Z 8)).toArray 31)
      replace hB := hB.alloc (.cells (C .u64 (Z 8)).toArray 31)
      replace hL := hL.alloc hgz (.cells (C .u64 (Z 8)).toArray 31)
      refine hK.out _ _ ⟨hA, hB⟩ (fun hHeld => ?_)
      clear hK K
      try simp only [Act.put, List.setIfInBounds_toArray, List.set_cons_zero, List.set_cons_succ]
      refine allReadyH_oneL (i := 0) (by kernel_rfl) rfl (by rfl) (fun K hK => ?_)
      go_simp
      refine (S3.start_any true _).mono ?_
      rintro _ x0 ⟨rfl, hb0⟩
      rw [HE0.out]
      replace hA := hA.belowS hb0
      replace hB := hB.belowS hb0
      replace hV := hV.belowS hb0
      replace hL := hL.trans (hb0.mono hL.size)
      clear hb0
      refine hK.out _ _ ⟨hA, hB⟩ (fun hHeld => ?_)
      clear hK K
      try simp only [Act.put, List.setIfInBounds_toArray, List.set_cons_zero, List.set_cons_succ]
      refine allReadyH_oneL (i := 2) (by kernel_rfl) rfl (by rfl) (fun K hK => ?_)
      go_simp
      refine (S3.block_any H0 ho0 b hb hl _ (hTab.below hL)).mono ?_
      rintro _ x2 ⟨rfl, hb2⟩
      rw [HE1.out]
      replace hA := hA.belowS hb2
      replace hB := hB.belowS hb2
      replace hV := hV.belowS hb2
      replace hL := hL.trans (hb2.mono hL.size)
      clear hb2
      refine hK.out _ _ ⟨hA, hB⟩ (fun hHeld => ?_)
      clear hK K
      try simp only [Act.put, List.setIfInBounds_toArray, List.set_cons_zero, List.set_cons_succ]
      refine allReadyH_oneL (i := 4) (by kernel_rfl) rfl (by rfl) (fun K hK => ?_)
      go_simp
      refine (S3.block_any H1 ho1 S3.padB S3.padB_lo S3.padB_length _ (hTab.below hL)).mono ?_
      rintro _ x4 ⟨rfl, hb4⟩
      rw [HE2.out]
      replace hA := hA.belowS hb4
      replace hB := hB.belowS hb4
      replace hV := hV.belowS hb4
      replace hL := hL.trans (hb4.mono hL.size)
      clear hb4
      refine hK.out _ _ ⟨hA, hB⟩ (fun hHeld => ?_)
      clear hK K
      try simp only [Act.put, List.setIfInBounds_toArray, List.set_cons_zero, List.set_cons_succ]
      refine allReadyH_oneL (i := 6) (by kernel_rfl) rfl (by rfl) (fun K hK => ?_)
      refine wp_store_R 31 _ _ rfl _ (C .u64 H2.list) rfl rfl hV S3.i8 rfl (C_allL _ _) ?_
      intro w7 hV7 hg7 hz7
      replace hA := hA.grown hg7 (by simp; omega)
      replace hB := hB.grown hg7 (by simp; omega)
      replace hL := below_grown hL hg7 (by omega) hV.lt
      refine hK.out _ _ ⟨hA, hB⟩ (fun hHeld => ?_)
      clear hK K
      refine wpAnyH_done (by kernel_rfl) ?_ _
      refine NoPanic.normal ?_
      go_wp2
      go_meet
      case rel => exact ⟨_, rfl, hV7, by omega, hA, hL⟩
  case rest =>
    clear hA hB hL
    obtain ⟨g4, rfl, hH, hg4, hA, hL⟩ := hcut
    have hsl : SlV wc (.slice (some ⟨w.heap.size, 0, none⟩) 128 128) (C .u8 b) := by
      have := hA.slAll (by rw [C_length, hl]; unfold maxLen; omega)
      rwa [C_length, hl] at this
    go_wp2_with fail
    refine (S3.sum512_any _ b wc hsl hb (by omega) (hTab.below hL)).mono ?_
    rintro _ w3 ⟨rfl, hb3⟩
    rw [HS.out]
    replace hH := hH.belowS hb3
    have hL3 := hL.trans (hb3.mono hL.size)
    clear hsl hA hL hb3
    have hOn := S3.out3_length H2
    have hGt := S3.out3_get H2
    generalize S3.out3 H2 = O at *
    have i20O : (Tryd.prog.info? 26).map (·.size) = some (C .u8 O).length := by rw [C_length, hOn]; exact S3.i64
    have h20O : (C .u8 (Z 64)).length = (C .u8 O).length := by rw [C_length, C_length, hOn, Z_length]
    have hV := Row.new w3 26 (C .u8 (Z 64))
    have hH1 := hH.alloc (.cells (C .u8 (Z 64)).toArray 26)
    have hL4 := Below.more hL3 hL3.size (.cells (C .u8 (Z 64)).toArray 26)
    have hHl := hH.lt
    go_upto_region 4 with (first | refine wpList_alloc_row rfl 26 rfl _ S3.z64 ?_ | (refine wpList_store_R rfl 26 _ _ rfl _ (C .u8 O) rfl rfl hV i20O h20O (C_allL _ _) ?_; intro w5 hO5 hg5 hz5))
    have hH5 := hH1.grown hg5 (by simp; omega)
    have hL5 := below_grown hL4.1 hg5 hL3.size hV.lt
    obtain ⟨g5, hge⟩ : ∃ g, w3.heap.size = g := ⟨_, rfl⟩
    simp only [Act.put, List.setIfInBounds_toArray, List.set_cons_zero, List.set_cons_succ]
    rw [hge] at hO5 ⊢
    clear hV hH1 hL4 hH hL3 hg5 hz5 hge hHl
    have HG := Away.mk hGt
    clear hGt
    go_wp2
    go_loopw [6] (fun i wr => ∃ k : Nat, k ≤ 64 ∧ i = .int .i64 k ∧ Row wr g5 26 (C .u8 O) ∧ Row wr g4 31 (C .u64 H2.list) ∧ Below w.heap.size w wr) (fun i _ => 64 - (intOf i).toNat)
    case atStart => exact ⟨0, Nat.zero_le _, rfl, hO5, hH5, hL5⟩
    case round =>
      clear hO5 hH5 hL5
      obtain ⟨k, hk, rfl, hO5, hH5, hL5⟩ := hrel
      by_cases hlt : k < 64
      · have hc := hH5.cell (k / 8)
        rw [C_get .u64 (show k / 8 < H2.list.length by simp [S3.S8.list]; omega)] at hc
        have hd := hO5.cell k
        rw [C_get .u8 (by omega)] at hd
        have HGk := Away.mk (HG.out (k / 8) (k % 8) (by omega) (by omega))
        rw [show 8 * (k / 8) + k % 8 = k by omega] at HGk
        have hx := S3.list_lt ho2 (k / 8)
        generalize H2.list.getD (k / 8) 0 = x at *
        rw [HGk.out] at hd
        obtain ⟨q, hq⟩ : ∃ q, k / 8 = q := ⟨_, rfl⟩
        rw [hq] at hc
        have hqt : (k : Int).tdiv 8 = (q : Int) := by rw [Int.tdiv_eq_ediv_of_nonneg (by omega)]; omega
        have hqw : IntKind.i64.wrap (q : Int) = (q : Int) := IntWalk.i64_in _ ⟨by omega, by omega⟩
        have hq5 : (q : Int) < 8 := by omega
        have hk20 : (k : Int) < 64 := by omega
        have hr4 : k % 8 = 0 ∨ k % 8 = 1 ∨ k % 8 = 2 ∨ k % 8 = 3 ∨ k % 8 = 4 ∨ k % 8 = 5 ∨ k % 8 = 6 ∨ k % 8 = 7 := by omega
        rcases hr4 with hr | hr | hr | hr | hr | hr | hr | hr
        · have hrt : (k : Int).tmod 8 = 0 := by rw [Int.tmod_eq_emod_of_nonneg (by omega)]; omega
          rw [hr] at hd
          obtain ⟨y, hy⟩ : ∃ y, x / 2 ^ (8 * (7 - 0)) % 256 = y := ⟨_, rfl⟩
          rw [hy] at hd
          have e1 : IntKind.u64.wrap (IntKind.i64.wrap (56 - IntKind.i64.wrap 0)) = 56 := by decide
          have e3 : IntKind.u8.wrap ((x : Int) / 72057594037927936) = (y : Int) := by rw [IntKind.wrap_u8', ← hy]; omega
          clear hy hr
          go_wp2
          go_region_held3 (fun w' => w'.cell? ⟨g5, k, none⟩ = some (.int .u8 (y : Int)) ∧ w'.cell? ⟨g4, q, none⟩ = some (.int .u64 (x : Int))) (exact ⟨hd, hc⟩) (fail)
          have G1 := Away.mk hO5
          have G2 := Away.mk hH5
          have G3 := Away.mk hL5
          clear hO5 hH5 hL5 hd hc hqt hrt
          go_wp2
          go_roundw
          case rel => exact ⟨k + 1, by omega, by go_num, G1.out.drew, G2.out.drew, G3.out.drew⟩
          case measure => simp [intOf]; omega
        · have hrt : (k : Int).tmod 8 = 1 := by rw [Int.tmod_eq_emod_of_nonneg (by omega)]; omega
          rw [hr] at hd
          obtain ⟨y, hy⟩ : ∃ y, x / 2 ^ (8 * (7 - 1)) % 256 = y := ⟨_, rfl⟩
          rw [hy] at hd
          have e1 : IntKind.u64.wrap (IntKind.i64.wrap (56 - IntKind.i64.wrap 8)) = 48 := by decide
          have e3 : IntKind.u8.wrap ((x : Int) / 281474976710656) = (y : Int) := by rw [IntKind.wrap_u8', ← hy]; omega
          clear hy hr
          go_wp2
          go_region_held3 (fun w' => w'.cell? ⟨g5, k, none⟩ = some (.int .u8 (y : Int)) ∧ w'.cell? ⟨g4, q, none⟩ = some (.int .u64 (x : Int))) (exact ⟨hd, hc⟩) (fail)
          have G1 := Away.mk hO5
          have G2 := Away.mk hH5
          have G3 := Away.mk hL5
          clear hO5 hH5 hL5 hd hc hqt hrt
          go_wp2
          go_roundw
          case rel => exact ⟨k + 1, by omega, by go_num, G1.out.drew, G2.out.drew, G3.out.drew⟩
          case measure => simp [intOf]; omega
        · have hrt : (k : Int).tmod 8 = 2 := by rw [Int.tmod_eq_emod_of_nonneg (by omega)]; omega
          rw [hr] at hd
          obtain ⟨y, hy⟩ : ∃ y, x / 2 ^ (8 * (7 - 2)) % 256 = y := ⟨_, rfl⟩
          rw [hy] at hd
          have e1 : IntKind.u64.wrap (IntKind.i64.wrap (56 - IntKind.i64.wrap 16)) = 40 := by decide
          have e3 : IntKind.u8.wrap ((x : Int) / 1099511627776) = (y : Int) := by rw [IntKind.wrap_u8', ← hy]; omega
          clear hy hr
          go_wp2
          go_region_held3 (fun w' => w'.cell? ⟨g5, k, none⟩ = some (.int .u8 (y : Int)) ∧ w'.cell? ⟨g4, q, none⟩ = some (.int .u64 (x : Int))) (exact ⟨hd, hc⟩) (fail)
          have G1 := Away.mk hO5
          have G2 := Away.mk hH5
          have G3 := Away.mk hL5
          clear hO5 hH5 hL5 hd hc hqt hrt
          go_wp2
          go_roundw
          case rel => exact ⟨k + 1, by omega, by go_num, G1.out.drew, G2.out.drew, G3.out.drew⟩
          case measure => simp [intOf]; omega
        · have hrt : (k : Int).tmod 8 = 3 := by rw [Int.tmod_eq_emod_of_nonneg (by omega)]; omega
          rw [hr] at hd
          obtain ⟨y, hy⟩ : ∃ y, x / 2 ^ (8 * (7 - 3)) % 256 = y := ⟨_, rfl⟩
          rw [hy] at hd
          have e1 : IntKind.u64.wrap (IntKind.i64.wrap (56 - IntKind.i64.wrap 24)) = 32 := by decide
          have e3 : IntKind.u8.wrap ((x : Int) / 4294967296) = (y : Int) := by rw [IntKind.wrap_u8', ← hy]; omega
          clear hy hr
          go_wp2
          go_region_held3 (fun w' => w'.cell? ⟨g5, k, none⟩ = some (.int .u8 (y : Int)) ∧ w'.cell? ⟨g4, q, none⟩ = some (.int .u64 (x : Int))) (exact ⟨hd, hc⟩) (fail)
          have G1 := Away.mk hO5
          have G2 := Away.mk hH5
          have G3 := Away.mk hL5
          clear hO5 hH5 hL5 hd hc hqt hrt
          go_wp2
          go_roundw
          case rel => exact ⟨k + 1, by omega, by go_num, G1.out.drew, G2.out.drew, G3.out.drew⟩
          case measure => simp [intOf]; omega
        · have hrt : (k : Int).tmod 8 = 4 := by rw [Int.tmod_eq_emod_of_nonneg (by omega)]; omega
          rw [hr] at hd
          obtain ⟨y, hy⟩ : ∃ y, x / 2 ^ (8 * (7 - 4)) % 256 = y := ⟨_, rfl⟩
          rw [hy] at hd
          have e1 : IntKind.u64.wrap (IntKind.i64.wrap (56 - IntKind.i64.wrap 32)) = 24 := by decide
          have e3 : IntKind.u8.wrap ((x : Int) / 16777216) = (y : Int) := by rw [IntKind.wrap_u8', ← hy]; omega
          clear hy hr
          go_wp2
          go_region_held3 (fun w' => w'.cell? ⟨g5, k, none⟩ = some (.int .u8 (y : Int)) ∧ w'.cell? ⟨g4, q, none⟩ = some (.int .u64 (x : Int))) (exact ⟨hd, hc⟩) (fail)
          have G1 := Away.mk hO5
          have G2 := Away.mk hH5
          have G3 := Away.mk hL5
          clear hO5 hH5 hL5 hd hc hqt hrt
          go_wp2
          go_roundw
          case rel => exact ⟨k + 1, by omega, by go_num, G1.out.drew, G2.out.drew, G3.out.drew⟩
          case measure => simp [intOf]; omega
        · have hrt : (k : Int).tmod 8 = 5 := by rw [Int.tmod_eq_emod_of_nonneg (by omega)]; omega
          rw [hr] at hd
          obtain ⟨y, hy⟩ : ∃ y, x / 2 ^ (8 * (7 - 5)) % 256 = y := ⟨_, rfl⟩
          rw [hy] at hd
          have e1 : IntKind.u64.wrap (IntKind.i64.wrap (56 - IntKind.i64.wrap 40)) = 16 := by decide
          have e3 : IntKind.u8.wrap ((x : Int) / 65536) = (y : Int) := by rw [IntKind.wrap_u8', ← hy]; omega
          clear hy hr
          go_wp2
          go_region_held3 (fun w' => w'.cell? ⟨g5, k, none⟩ = some (.int .u8 (y : Int)) ∧ w'.cell? ⟨g4, q, none⟩ = some (.int .u64 (x : Int))) (exact ⟨hd, hc⟩) (fail)
          have G1 := Away.mk hO5
          have G2 := Away.mk hH5
          have G3 := Away.mk hL5
          clear hO5 hH5 hL5 hd hc hqt hrt
          go_wp2
          go_roundw
          case rel => exact ⟨k + 1, by omega, by go_num, G1.out.drew, G2.out.drew, G3.out.drew⟩
          case measure => simp [intOf]; omega
        · have hrt : (k : Int).tmod 8 = 6 := by rw [Int.tmod_eq_emod_of_nonneg (by omega)]; omega
          rw [hr] at hd
          obtain ⟨y, hy⟩ : ∃ y, x / 2 ^ (8 * (7 - 6)) % 256 = y := ⟨_, rfl⟩
          rw [hy] at hd
          have e1 : IntKind.u64.wrap (IntKind.i64.wrap (56 - IntKind.i64.wrap 48)) = 8 := by decide
          have e3 : IntKind.u8.wrap ((x : Int) / 256) = (y : Int) := by rw [IntKind.wrap_u8', ← hy]; omega
          clear hy hr
          go_wp2
          go_region_held3 (fun w' => w'.cell? ⟨g5, k, none⟩ = some (.int .u8 (y : Int)) ∧ w'.cell? ⟨g4, q, none⟩ = some (.int .u64 (x : Int))) (exact ⟨hd, hc⟩) (fail)
          have G1 := Away.mk hO5
          have G2 := Away.mk hH5
          have G3 := Away.mk hL5
          clear hO5 hH5 hL5 hd hc hqt hrt
          go_wp2
          go_roundw
          case rel => exact ⟨k + 1, by omega, by go_num, G1.out.drew, G2.out.drew, G3.out.drew⟩
          case measure => simp [intOf]; omega
        · have hrt : (k : Int).tmod 8 = 7 := by rw [Int.tmod_eq_emod_of_nonneg (by omega)]; omega
          rw [hr] at hd
          obtain ⟨y, hy⟩ : ∃ y, x / 2 ^ (8 * (7 - 7)) % 256 = y := ⟨_, rfl⟩
          rw [hy] at hd
          have e1 : IntKind.u64.wrap (IntKind.i64.wrap (56 - IntKind.i64.wrap 56)) = 0 := by decide
          have e3 : IntKind.u8.wrap ((x : Int)) = (y : Int) := by rw [IntKind.wrap_u8', ← hy]; omega
          clear hy hr
          go_wp2
          go_region_held3 (fun w' => w'.cell? ⟨g5, k, none⟩ = some (.int .u8 (y : Int)) ∧ w'.cell? ⟨g4, q, none⟩ = some (.int .u64 (x : Int))) (exact ⟨hd, hc⟩) (fail)
          have G1 := Away.mk hO5
          have G2 := Away.mk hH5
          have G3 := Away.mk hL5
          clear hO5 hH5 hL5 hd hc hqt hrt
          go_wp2
          go_roundw
          case rel => exact ⟨k + 1, by omega, by go_num, G1.out.drew, G2.out.drew, G3.out.drew⟩
          case measure => simp [intOf]; omega
      · have hk20 : ¬ (k : Int) < 64 := by omega
        clear hH5 hO5 HG
        go_wp2_with fail
        refine (S3.alive8_true _ (hTab.below hL5)).mono ?_
        rintro _ w9 ⟨rfl, hb9⟩
        have hL9 := hL5.trans (hb9.mono hL5.size)
        go_wp2
        go_ret
        exact ⟨rfl, hL9⟩

set_option maxRecDepth 100000 in
theorem lifted (os : Os) (started : os.Started) (H : Type) (enc : TypeId × Value → H) :
    ReturnsInHanded {} Tryd.checked os 5 .any (fun w args => (Rows.sha512BlocksSpec.pre enc Tryd.prog Tryd.f5 [] false w args ∧ laidMetH Tryd.prog S3.laid1 w) ∧ sizedMet enc Tryd.prog Tryd.f5 (OpenSpec.ofChange Rows.sha512BlocksSpec) false w args) (Rows.sha512BlocksSpec.post enc Tryd.prog Tryd.f5 false true false false) := by
  refine returnsInHanded_of_change_and (C := Tryd.checked) (X := fun w _ => laidMetH Tryd.prog S3.laid1 w) (fun _ _ _ hh h => h.of_heap hh) own started (by kernel_rfl) Tryd.func5
    (ChangeSpec.witness_shaped (enc := enc) (C := Tryd.checked) (os := os) (X := fun w _ => laidMetH Tryd.prog S3.laid1 w) false (World.doorLaid Tryd.prog 400 os) #[.agg (C .u8 (Z 128)).toArray] 8 rfl (World.shaped_of_RefB (by kernel_rfl) (by kernel_rfl)) (by kernel_rfl) (by kernel_rfl) (by kernel_rfl) (S3.door_met os _)) ?_
  intro W base args ds gs before hval0 hW _ _ hLd _
  have hval : ∀ (j : Nat) t v, Tryd.f5.params[j]? = some t → args[j]? = some v → Value.okWide Tryd.prog W .any base t v := hval0
  have hW' := hW
  obtain ⟨p, q, hA0, hV, rfl, hfz, hnd⟩ := hW
  have hA : DataW.TrodAll enc Tryd.prog W 0 (fun _ => true) true Tryd.f5.params.toList args.toList ds p := hA0
  rw [Tryd.params5] at hA hval
  obtain ⟨v0, vs0, d0, ds0, p0, q0, hargs, rfl, rfl, h0, r0⟩ := trodAll_cons hA
  obtain ⟨rfl, rfl, rfl⟩ := trodAll_nil r0
  obtain rfl : args = #[v0] := by cases args; simp_all
  obtain ⟨rfl, rfl⟩ := trodVars_none hV
  have k0 := h0
  have lt0 : ∀ x ∈ p0, x.block < W.heap.size := by obtain ⟨m, hm⟩ := k0; exact DataW.trod_lt m _ _ _ hm
  obtain ⟨z0, rfl, hl0, hz0⟩ := open_array Tryd.underlying32 Tryd.underlying5 (by kernel_rfl) (by kernel_rfl) (hval 0 32 v0 rfl rfl) h0
  obtain ⟨x0, e0, l0, b0⟩ := arr_bytes hz0
  rw [e0] at hW' k0 ⊢
  clear hA0 hval0
  refine (walk x0 b0 (l0.trans hl0) W (S3.of_laid hLd)).mono fun e W' ⟨he, bel⟩ => ?_
  subst he
  exact ⟨_, rfl, _, _, _, [], _, [], hW', trodAll_mk1 (shut_bool Tryd.underlying4 _), (trodAll_cons_mk (Below.trod laidOut (by kernel_rfl) (of_decide_eq_true (by kernel_rfl)) k0 bel lt0) trodAll_mk0), rfl, bel.frame _, fun h => by cases h⟩

theorem over : Rows.sha512BlocksRow.holds Tryd.pinned (OpenSpec.ofChange Rows.sha512BlocksSpec) :=
  OpenClaim.holds_of_wide 5 Tryd.f5 rfl rfl rfl rfl rfl rfl rfl ⟨rfl, rfl, rfl, rfl, rfl⟩ rfl rfl rfl rfl rfl (by kernel_rfl) Tryd.func5 (by kernel_rfl)
    (of_decide_eq_true (by kernel_rfl)) (by unfold Func.isWrapper; first | (rw [if_pos (by decide +kernel)]; kernel_rfl) | (rw [if_neg (by decide +kernel)]; exact ⟨rfl, rfl⟩))
    (fun os started H enc _ => lifted os started H enc)

end Go.Proofs.YtniclmghkbdkbaaDoor.sha512Blocks
namespace Go.Proofs.YtniclmghkbdkbaaDoor
/-- The given statement. -/
theorem sha512Blocks_proved : Rows.Sha512BlocksCardSaid :=
  Claim7.holds_tied_plain_at .later [] [.data] true (true, "811edfb1be13716fa3f6f04c4fb46979b36beed6323c6561f9e0df8f7ac8aa31") false
    sha512Blocks.over (fun _ h => by cases h) (by kernel_rfl) (fun _ h => by cases h) sha512Blocks_row_tie rfl ⟨rfl, rfl⟩ (by kernel_rfl) rfl
    (fun f fn hf hfn => by
      obtain rfl : f = 5 := Option.some.inj ((show Tryd.prog.funcNamed "affiant/affiantlaw08.Sha512Blocks" = some 5 by kernel_rfl).symm.trans hf) |>.symm
      obtain rfl : fn = Tryd.f5 := (Option.some.inj (Tryd.func5.symm.trans hfn)).symm
      exact ⟨by kernel_rfl, fun j t ht => by
        rw [Tryd.params5] at ht
        have hm : t ∈ ([32] : List TypeId) := by simpa using Array.mem_of_getElem? ht
        have hall : (([32] : List TypeId).all fun u => !Tryd.prog.wantsStandIn u) = true := by kernel_rfl
        exact (show Tryd.prog.wantsStandIn t = false by simpa using List.all_eq_true.1 hall t hm)⟩)
    (by kernel_rfl)
end Go.Proofs.YtniclmghkbdkbaaDoor
