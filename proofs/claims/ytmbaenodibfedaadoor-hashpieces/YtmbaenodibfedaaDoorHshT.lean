/-
  Numbers told as bytes, the count of bits, the padding, a row cloned, over this seat's translation. Conditions: as each says.
-/
import Derived.Test.YtmbaenodibfedaaDoorLay9
import Derived.Test.YtmbaenodibfedaaDoorKit11
import Derived.Test.YtmbaenodibfedaaDoorHshM
import Derived.Lib.SliceRun
namespace Go.Proofs.YtmbaenodibfedaaDoor.S9
open Go.RowKit
set_option linter.unusedVariables false
set_option maxRecDepth 10000

/-- The first n bytes of numbers of W bytes, of each the highest first. -/
def tb (W : Nat) (ws : List Nat) (n : Nat) : List Nat := (List.range n).map fun i => ws.getD (i / W) 0 / 2 ^ (8 * (W - 1 - i % W)) % 256
theorem tb_length (W : Nat) (ws : List Nat) (n : Nat) : (tb W ws n).length = n := by simp [tb]
theorem tb_get (W : Nat) (ws : List Nat) (n k : Nat) (h : k < n) : (tb W ws n).getD k 0 = ws.getD (k / W) 0 / 2 ^ (8 * (W - 1 - k % W)) % 256 := by simp [tb, h]
theorem tb_lo (W : Nat) (ws : List Nat) (n : Nat) : Lo 256 (tb W ws n) := by
  intro x hx
  obtain ⟨i, _, rfl⟩ := List.mem_map.1 hx
  exact Nat.mod_lt _ (by decide)
theorem own_upto {w : World} {base n k : Nat} {e : TypeId} {v : Value} {q : IntKind} {l : List Nat} {y : Int} (h : l.length = n) (hk : k < n) (hy : y = ((l.getD k 0 : Nat) : Int)) (ho : w.ownsRow base e 1 v n ((C q (upto l n k)).set k (.int q y))) : w.drew.ownsRow base e 1 v n (C q (upto l n (k + 1))) := by
  subst hy
  rw [← upto_succ h hk, C_set]
  exact ho
set_option maxHeartbeats 1600000 in
theorem tell32_any (v : Value) (ws : List Nat) (hws : Lo 4294967296 ws) (n : Nat) (hn : n ≤ 4 * ws.length) (hm : ws.length ≤ 100) (w : World) (hv : SlV w v (C .u32 ws)) :
    Calls Tryd.prog 64 #[v, .int .i64 4, .int .i64 (n : Int)] w fun e w' => ∃ v', e = .returned v' ∧ w'.ownsRow w.heap.size 5 1 v' n (C .u8 (tb 4 ws n)) ∧ Below w.heap.size w w' := by
  obtain ⟨N, hN⟩ : ∃ N, ws.length = N := ⟨_, rfl⟩
  obtain ⟨sa, sc, rfl, h1, h2⟩ := hv.shp hN
  obtain ⟨i0, hi, hz0, hz1, hz2⟩ := info_parts S2.inf8
  have hm' : n ≤ maxLen := by unfold maxLen; omega
  go_enter Tryd.func64, Tryd.ntmps64
  go_wp2_with (at_make; refine wpList_make_full _ rfl _ _ 22 rfl w.heap.size 5 i0 _ 1 Tryd.underlying22 hi hz0 hz1 _ _ _ _ n rfl rfl rfl rfl (by rw [hz2]; omega) hm' (Nat.le_refl _) ?_)
  intro w1 hown hgrow
  have hown := own_made hown
  have hs1 := hv.grown hgrow (by simp)
  have hb1 : Below w.heap.size w w1 := (Below.refl _ _).grown hgrow (Nat.le_refl _) (by simp)
  rw [← C_zeros, ← show Z n = List.replicate n 0 from rfl, ← upto_zero (tb 4 ws n) n] at hown
  clear hgrow
  go_wp2
  go_loopw [13] (fun i wr => ∃ k : Nat, k ≤ n ∧ i = .int .i64 k ∧ wr.ownsRow w.heap.size 5 1 (.slice (some ⟨w.heap.size, 0, none⟩) n n) n (C .u8 (upto (tb 4 ws n) n k)) ∧ Below w.heap.size w wr) (fun i _ => n - (intOf i).toNat)
  case atStart => exact ⟨0, Nat.zero_le _, rfl, hown, hb1⟩
  case round =>
    clear hown hb1 hs1
    obtain ⟨k, hk, rfl, ho, hb⟩ := hrel
    by_cases hlt : k < n
    · obtain ⟨b, off, rfl, hbl, hcx⟩ := (hv.below hb).cells (by rw [C_length]; omega)
      have hc := hcx (k / 4) _ (C_get .u32 (show k / 4 < ws.length by omega))
      have hx := hws.getD (by decide) (k / 4)
      have HG := Away.mk (tb_get 4 ws n k hlt)
      clear hcx
      generalize ws.getD (k / 4) 0 = x at *
      have hfr := ho.frozenAt k
      have hce : ∃ u, wr.cell? ⟨w.heap.size, k, none⟩ = some u := by
        rw [ho.cellAt _ (by omega)]
        exact ⟨_, List.getElem?_eq_getElem (by rw [C_length, upto_length (tb_length _ _ _) hk]; omega)⟩
      obtain ⟨u, hce⟩ := hce
      have hst := fun y => ho.stored k (.int .u8 y)
      have hr8 : k % 4 = 0 ∨ k % 4 = 1 ∨ k % 4 = 2 ∨ k % 4 = 3 := by omega
      rcases hr8 with hr | hr | hr | hr
      · have hri : (k : Int) % 4 = 0 := by omega
        rw [hr] at HG
        go_wp2
        go_region
        go_wp2
        go_roundw
        case rel => exact ⟨k + 1, by omega, by go_num, own_upto (tb_length _ _ _) hlt (by rw [HG.out]; simp <;> omega) (hst _).1, (hb.setCell (by simp) _).drew⟩
        case measure => simp [intOf]; omega
      · have hri : (k : Int) % 4 = 1 := by omega
        rw [hr] at HG
        go_wp2
        go_region
        go_wp2
        go_roundw
        case rel => exact ⟨k + 1, by omega, by go_num, own_upto (tb_length _ _ _) hlt (by rw [HG.out]; simp <;> omega) (hst _).1, (hb.setCell (by simp) _).drew⟩
        case measure => simp [intOf]; omega
      · have hri : (k : Int) % 4 = 2 := by omega
        rw [hr] at HG
        go_wp2
        go_region
        go_wp2
        go_roundw
        case rel => exact ⟨k + 1, by omega, by go_num, own_upto (tb_length _ _ _) hlt (by rw [HG.out]; simp <;> omega) (hst _).1, (hb.setCell (by simp) _).drew⟩
        case measure => simp [intOf]; omega
      · have hri : (k : Int) % 4 = 3 := by omega
        rw [hr] at HG
        go_wp2
        go_region
        go_wp2
        go_roundw
        case rel => exact ⟨k + 1, by omega, by go_num, own_upto (tb_length _ _ _) hlt (by rw [HG.out]; simp <;> omega) (hst _).1, (hb.setCell (by simp) _).drew⟩
        case measure => simp [intOf]; omega
    · obtain rfl : k = n := by omega
      rw [upto_all (tb_length _ _ _)] at ho
      go_wp2
      go_ret
      exact ⟨_, rfl, ho, hb⟩
set_option maxHeartbeats 1600000 in
theorem tell64_any (v : Value) (ws : List Nat) (hws : Lo 18446744073709551616 ws) (n : Nat) (hn : n ≤ 8 * ws.length) (hm : ws.length ≤ 100) (w : World) (hv : SlV w v (C .u64 ws)) :
    Calls Tryd.prog 65 #[v, .int .i64 8, .int .i64 (n : Int)] w fun e w' => ∃ v', e = .returned v' ∧ w'.ownsRow w.heap.size 5 1 v' n (C .u8 (tb 8 ws n)) ∧ Below w.heap.size w w' := by
  obtain ⟨N, hN⟩ : ∃ N, ws.length = N := ⟨_, rfl⟩
  obtain ⟨sa, sc, rfl, h1, h2⟩ := hv.shp hN
  obtain ⟨i0, hi, hz0, hz1, hz2⟩ := info_parts S2.inf8
  have hm' : n ≤ maxLen := by unfold maxLen; omega
  go_enter Tryd.func65, Tryd.ntmps65
  go_wp2_with (at_make; refine wpList_make_full _ rfl _ _ 22 rfl w.heap.size 5 i0 _ 1 Tryd.underlying22 hi hz0 hz1 _ _ _ _ n rfl rfl rfl rfl (by rw [hz2]; omega) hm' (Nat.le_refl _) ?_)
  intro w1 hown hgrow
  have hown := own_made hown
  have hs1 := hv.grown hgrow (by simp)
  have hb1 : Below w.heap.size w w1 := (Below.refl _ _).grown hgrow (Nat.le_refl _) (by simp)
  rw [← C_zeros, ← show Z n = List.replicate n 0 from rfl, ← upto_zero (tb 8 ws n) n] at hown
  clear hgrow
  go_wp2
  go_loopw [13] (fun i wr => ∃ k : Nat, k ≤ n ∧ i = .int .i64 k ∧ wr.ownsRow w.heap.size 5 1 (.slice (some ⟨w.heap.size, 0, none⟩) n n) n (C .u8 (upto (tb 8 ws n) n k)) ∧ Below w.heap.size w wr) (fun i _ => n - (intOf i).toNat)
  case atStart => exact ⟨0, Nat.zero_le _, rfl, hown, hb1⟩
  case round =>
    clear hown hb1 hs1
    obtain ⟨k, hk, rfl, ho, hb⟩ := hrel
    by_cases hlt : k < n
    · obtain ⟨b, off, rfl, hbl, hcx⟩ := (hv.below hb).cells (by rw [C_length]; omega)
      have hc := hcx (k / 8) _ (C_get .u64 (show k / 8 < ws.length by omega))
      have hx := hws.getD (by decide) (k / 8)
      have HG := Away.mk (tb_get 8 ws n k hlt)
      clear hcx
      generalize ws.getD (k / 8) 0 = x at *
      have hfr := ho.frozenAt k
      have hce : ∃ u, wr.cell? ⟨w.heap.size, k, none⟩ = some u := by
        rw [ho.cellAt _ (by omega)]
        exact ⟨_, List.getElem?_eq_getElem (by rw [C_length, upto_length (tb_length _ _ _) hk]; omega)⟩
      obtain ⟨u, hce⟩ := hce
      have hst := fun y => ho.stored k (.int .u8 y)
      have hr8 : k % 8 = 0 ∨ k % 8 = 1 ∨ k % 8 = 2 ∨ k % 8 = 3 ∨ k % 8 = 4 ∨ k % 8 = 5 ∨ k % 8 = 6 ∨ k % 8 = 7 := by omega
      rcases hr8 with hr | hr | hr | hr | hr | hr | hr | hr
      · have hri : (k : Int) % 8 = 0 := by omega
        rw [hr] at HG
        go_wp2
        go_region
        go_wp2
        go_roundw
        case rel => exact ⟨k + 1, by omega, by go_num, own_upto (tb_length _ _ _) hlt (by rw [HG.out]; simp <;> omega) (hst _).1, (hb.setCell (by simp) _).drew⟩
        case measure => simp [intOf]; omega
      · have hri : (k : Int) % 8 = 1 := by omega
        rw [hr] at HG
        go_wp2
        go_region
        go_wp2
        go_roundw
        case rel => exact ⟨k + 1, by omega, by go_num, own_upto (tb_length _ _ _) hlt (by rw [HG.out]; simp <;> omega) (hst _).1, (hb.setCell (by simp) _).drew⟩
        case measure => simp [intOf]; omega
      · have hri : (k : Int) % 8 = 2 := by omega
        rw [hr] at HG
        go_wp2
        go_region
        go_wp2
        go_roundw
        case rel => exact ⟨k + 1, by omega, by go_num, own_upto (tb_length _ _ _) hlt (by rw [HG.out]; simp <;> omega) (hst _).1, (hb.setCell (by simp) _).drew⟩
        case measure => simp [intOf]; omega
      · have hri : (k : Int) % 8 = 3 := by omega
        rw [hr] at HG
        go_wp2
        go_region
        go_wp2
        go_roundw
        case rel => exact ⟨k + 1, by omega, by go_num, own_upto (tb_length _ _ _) hlt (by rw [HG.out]; simp <;> omega) (hst _).1, (hb.setCell (by simp) _).drew⟩
        case measure => simp [intOf]; omega
      · have hri : (k : Int) % 8 = 4 := by omega
        rw [hr] at HG
        go_wp2
        go_region
        go_wp2
        go_roundw
        case rel => exact ⟨k + 1, by omega, by go_num, own_upto (tb_length _ _ _) hlt (by rw [HG.out]; simp <;> omega) (hst _).1, (hb.setCell (by simp) _).drew⟩
        case measure => simp [intOf]; omega
      · have hri : (k : Int) % 8 = 5 := by omega
        rw [hr] at HG
        go_wp2
        go_region
        go_wp2
        go_roundw
        case rel => exact ⟨k + 1, by omega, by go_num, own_upto (tb_length _ _ _) hlt (by rw [HG.out]; simp <;> omega) (hst _).1, (hb.setCell (by simp) _).drew⟩
        case measure => simp [intOf]; omega
      · have hri : (k : Int) % 8 = 6 := by omega
        rw [hr] at HG
        go_wp2
        go_region
        go_wp2
        go_roundw
        case rel => exact ⟨k + 1, by omega, by go_num, own_upto (tb_length _ _ _) hlt (by rw [HG.out]; simp <;> omega) (hst _).1, (hb.setCell (by simp) _).drew⟩
        case measure => simp [intOf]; omega
      · have hri : (k : Int) % 8 = 7 := by omega
        rw [hr] at HG
        go_wp2
        go_region
        go_wp2
        go_roundw
        case rel => exact ⟨k + 1, by omega, by go_num, own_upto (tb_length _ _ _) hlt (by rw [HG.out]; simp <;> omega) (hst _).1, (hb.setCell (by simp) _).drew⟩
        case measure => simp [intOf]; omega
    · obtain rfl : k = n := by omega
      rw [upto_all (tb_length _ _ _)] at ho
      go_wp2
      go_ret
      exact ⟨_, rfl, ho, hb⟩
/-- The count. -/
def cn (B : Nat) (c : Nat) : List Nat := if B = 128 then S3.cnt c else S1.be8 c
theorem cn_length (B c : Nat) : (cn B c).length = if B = 128 then 16 else 8 := by unfold cn; split <;> rfl
theorem tb_one (x : Nat) : tb 8 [x] 8 = S1.be8 x := rfl
theorem tb_two (x : Nat) : tb 8 [0, x] 16 = S3.cnt x := by
  have e : tb 8 [0, x] 16 = [0 / 2 ^ (8 * 7) % 256, 0 / 2 ^ (8 * 6) % 256, 0 / 2 ^ (8 * 5) % 256, 0 / 2 ^ (8 * 4) % 256, 0 / 2 ^ (8 * 3) % 256, 0 / 2 ^ (8 * 2) % 256, 0 / 2 ^ (8 * 1) % 256, 0 / 2 ^ (8 * 0) % 256] ++ S1.be8 x := rfl
  rw [e]
  rfl
theorem bits_small (x : Nat) (hx : x < 1152921504606846976) (w : World) :
    Calls Tryd.prog 102 #[.int .u64 (x : Int), .int .i64 64] w fun e w' => ∃ v', e = .returned v' ∧ w'.ownsRow w.heap.size 5 1 v' 8 (C .u8 (cn 64 (8 * x))) ∧ Below w.heap.size w w' := by
  go_enter Tryd.func102, Tryd.ntmps102
  go_wp2_with fail
  refine (S3.mul64_any x hx _).mono ?_
  rintro _ w1 ⟨rfl, rfl⟩
  have hA : Below w.heap.size w (w.alloc (.cells (C .u64 [8 * x]).toArray 37)) := (Below.refl _ _).alloc (Nat.le_refl _) _
  have hs : SlV (w.alloc (.cells (C .u64 [8 * x]).toArray 37)) (.slice (some ⟨w.heap.size, 0, none⟩) 1 1) (C .u64 [8 * x]) := SlV_one w (.int .u64 ((8 * x : Nat) : Int)) 37
  go_wp2_with fail
  refine (tell64_any _ [8 * x] (by intro y hy; simp at hy; omega) 8 (by simp) (by simp) _ hs).mono ?_
  rintro _ w2 ⟨v2, rfl, ho, hb⟩
  have ho := own_base ho hA.size
  have hb := hA.trans (hb.mono hA.size)
  rw [tb_one] at ho
  go_wp2
  go_ret
  exact ⟨_, rfl, ho, hb⟩
theorem bits_large (x : Nat) (hx : x < 1152921504606846976) (w : World) :
    Calls Tryd.prog 102 #[.int .u64 (x : Int), .int .i64 128] w fun e w' => ∃ v', e = .returned v' ∧ w'.ownsRow w.heap.size 5 1 v' 16 (C .u8 (cn 128 (8 * x))) ∧ Below w.heap.size w w' := by
  go_enter Tryd.func102, Tryd.ntmps102
  go_wp2_with fail
  refine (S3.mul64_any x hx _).mono ?_
  rintro _ w1 ⟨rfl, rfl⟩
  have hA : Below w.heap.size w (w.alloc (.cells (C .u64 [0, 8 * x]).toArray 37)) := (Below.refl _ _).alloc (Nat.le_refl _) _
  have hs : SlV (w.alloc (.cells (C .u64 [0, 8 * x]).toArray 37)) (.slice (some ⟨w.heap.size, 0, none⟩) 2 2) (C .u64 [0, 8 * x]) := SlV_newF w (C .u64 [0, 8 * x]) 37 (0, 0) (by rw [C_length]; show 2 ≤ maxLen; decide)
  go_wp2_with fail
  refine (tell64_any _ [0, 8 * x] (by intro y hy; simp at hy; omega) 16 (by simp) (by simp) _ hs).mono ?_
  rintro _ w2 ⟨v2, rfl, ho, hb⟩
  have ho := own_base ho hA.size
  have hb := hA.trans (hb.mono hA.size)
  rw [tb_two] at ho
  go_wp2
  go_ret
  exact ⟨_, rfl, ho, hb⟩
theorem clone_any (v : Value) (xs : List Nat) (w : World) (hs : SlV w v (C .u8 xs)) (hm : xs.length ≤ 1000000) :
    Calls Tryd.prog 101 #[v] w fun e w' => ∃ v', e = .returned v' ∧ w'.ownsRow w.heap.size 5 1 v' xs.length (C .u8 xs) ∧ Below w.heap.size w w' := by
  obtain ⟨N, hN⟩ : ∃ N, xs.length = N := ⟨_, rfl⟩
  obtain ⟨sa, sc, rfl, h1, h2⟩ := hs.shp hN
  rw [hN]
  have qT : ∀ (w : World) (a : Option Addr) (n c n' c' : Nat), (binOp .eql 22 (.slice a n c) (.slice none n' c')).run Tryd.prog w = .ok (.bool a.isNone) w := fun w a n c n' c' => Lib.run_eql_slice_nil w _ _ a n c n' c' Tryd.underlying22
  cases sa with
  | none =>
    have h0 : N = 0 := by
      by_cases hp : 0 < N
      · obtain ⟨b, off, e, _⟩ := hs.cells (by rw [C_length]; omega)
        cases e
      · omega
    subst h0
    obtain rfl : xs = [] := List.eq_nil_of_length_eq_zero hN
    go_enter Tryd.func101, Tryd.ntmps101
    go_wp2
    go_ret
    exact ⟨_, rfl, World.ownsRow_nil w _ _ _, Below.refl _ _⟩
  | some ad =>
    have hA : Below w.heap.size w (w.alloc (.cells #[] 5)) := (Below.refl _ _).alloc (Nat.le_refl _) _
    have hsA := hs.below hA
    have hoA := own_empty w w.heap.size 5 (Nat.le_refl _)
    go_enter Tryd.func101, Tryd.ntmps101
    go_wp2_with (at_builtin; refine wpList_append_sl rfl (.tmp 5) (.tmp 6) 22 rfl w.heap.size 5 _ 1 Tryd.underlying22 S2.inf8 rfl _ 0 [] rfl hoA _ (C .u8 xs) rfl hsA (C_one _ _) (by rw [C_length]; unfold maxLen; omega) (by rw [C_length]; omega) (by simp) ?_)
    intro v1 w1 ho1 hg1
    have hb1 : Below w.heap.size w w1 := hA.grown hg1 hA.size (fun k hk => (hoA.lt k hk).1)
    have ho1 : w1.ownsRow w.heap.size 5 1 v1 N (C .u8 xs) := by simpa [C_length, hN] using ho1
    go_wp2
    go_ret
    exact ⟨_, rfl, ho1, hb1⟩
/-- What stands behind x bytes: blocks of B bytes, a count of c. -/
def pdg (B c x : Nat) : List Nat := 128 :: (Z ((B - (x + (c + 1)) % B) % B) ++ cn B (8 * x))
set_option maxHeartbeats 1600000 in
theorem padding_small (x : Nat) (hx : x < 1152921504606846000) (w : World) :
    Calls Tryd.prog 100 #[.int .u64 (x : Int), .int .i64 64] w fun e w' => ∃ v' n, e = .returned v' ∧ w'.ownsRow w.heap.size 5 1 v' n (C .u8 (pdg 64 8 x)) ∧ Below w.heap.size w w' := by
  obtain ⟨z, hz⟩ : ∃ z, (64 - (x + 9) % 64) % 64 = z := ⟨_, rfl⟩
  have HZ := Away.mk hz
  have hz1 : z < 64 := by omega
  have hz2 : (x + 9 + z) % 64 = 0 := by omega
  have hz3 : ∀ j, j < z → (x + 9 + j) % 64 ≠ 0 := by intro j hj; omega
  clear hz
  go_enter Tryd.func100, Tryd.ntmps100
  go_wp2_with fail
  refine (bits_small x (by omega) _).mono ?_
  rintro _ w1 ⟨cv, rfl, hoc, hb1⟩
  have hsc := SlV.ofOwn hoc
  have hcl : (cn 64 (8 * x)).length = 8 := cn_length _ _
  obtain ⟨ca, cc, rfl, hc1, hc2⟩ := hsc.shp hcl
  have hR := Row.new w1 5 (C .u8 [128])
  have ho := hR.owns (base := w1.heap.size) (n := 1) (cap := 1) (Nat.le_refl _) (by simp [C]) (by simp [C, maxLen])
  have hA := (Below.more (Below.refl w1.heap.size w1) (Nat.le_refl _) (.cells (C .u8 [128]).toArray 5)).1
  have e1 : (C .u8 [128]).take 1 = C .u8 (128 :: Z 0) := rfl
  rw [e1] at ho
  clear hR e1 hoc
  have hsz1 := hb1.size
  go_wp2
  go_loopw [6] (fun v wr => ∃ j : Nat, v = v ∧ j ≤ z ∧ lenS v = 1 + j ∧ wr.ownsRow w1.heap.size 5 1 v (1 + j) (C .u8 (128 :: Z j)) ∧ Below w1.heap.size w1 wr) (fun v _ => 1 + z - lenS v)
  case atStart => exact ⟨0, rfl, Nat.zero_le _, rfl, ho, hA⟩
  case round =>
    clear ho hA
    obtain ⟨j, -, hj, hlen, ho, hb⟩ := hrel
    have hso := SlV.ofOwn ho
    obtain ⟨p, hp⟩ : ∃ p, 1 + j = p := ⟨_, rfl⟩
    rw [hp] at ho
    obtain ⟨sa, sc, rfl, h1, h2⟩ := hso.shp (n := p) (by simp [Z_length]; omega)
    by_cases hlt : j < z
    · have hd : (((x : Int) + ((p : Int) + 8)) % 64 != 0) = true := by
        have := hz3 j hlt
        simp only [bne_iff_ne, ne_eq]
        omega
      have hoA := ho.alloc (.cells #[.int .u8 0] 5)
      have hsA := SlV_one wr (.int .u8 0) 5
      have hbA := Below.more hb hb.size (.cells #[.int .u8 0] 5)
      clear hso
      go_wp2_with (at_builtin; refine wpList_append_sl rfl (.tmp 23) (.tmp 24) 22 rfl w1.heap.size 5 _ 1 Tryd.underlying22 S2.inf8 rfl _ p _ rfl hoA _ [.int .u8 0] rfl hsA (by simp [Value.oneCell']) (by simp [maxLen]; omega) (by simp; omega) hbA.2 ?_)
      intro v2 w2 ho2 hg2
      have hb2 : Below w1.heap.size w1 w2 := hbA.1.grown hg2 hbA.2 (fun k hk => (hoA.lt k hk).1)
      have ho2 : w2.ownsRow w1.heap.size 5 1 v2 (1 + (j + 1)) (C .u8 (128 :: Z (j + 1))) := by
        have e : C .u8 (128 :: Z (j + 1)) = C .u8 (128 :: Z j) ++ [.int .u8 0] := by
          rw [Z, List.replicate_succ', ← List.cons_append, C_append]; rfl
        rw [e, show 1 + (j + 1) = p + [Value.int .u8 0].length by simp; omega]
        exact ho2
      clear hg2 hoA hsA hbA ho hb
      have hlen2 : lenS v2 = 1 + (j + 1) := by
        obtain ⟨a2, c2, rfl, _, _⟩ := (SlV.ofOwn ho2).shp (n := 1 + (j + 1)) (by simp [Z_length]; omega)
        rfl
      go_wp2
      go_roundw
      case rel => exact ⟨j + 1, trivial, by omega, hlen2, ho2, hb2⟩
      case measure => rw [hlen2]; simp only [lenS]; omega
    · obtain rfl : j = z := by omega
      have hd : (((x : Int) + ((p : Int) + 8)) % 64 != 0) = false := by
        simp only [bne_eq_false_iff_eq]
        omega
      have hsA := hsc.below hb
      go_wp2_with (at_builtin; refine wpList_append_sl rfl (.tmp 26) (.tmp 27) 22 rfl w1.heap.size 5 _ 1 Tryd.underlying22 S2.inf8 rfl _ p _ rfl ho _ (C .u8 (cn 64 (8 * x))) rfl hsA (C_one _ _) (by rw [C_length, hcl]; unfold maxLen; omega) (by rw [C_length, hcl]; omega) hb.size ?_)
      intro v2 w2 ho2 hg2
      have hb2 : Below w1.heap.size w1 w2 := hb.grown hg2 hb.size (fun k hk => (ho.lt k hk).1)
      have ho2 : w2.ownsRow w.heap.size 5 1 v2 (p + 8) (C .u8 (pdg 64 8 x)) := by
        have e : C .u8 (pdg 64 8 x) = C .u8 (128 :: Z j) ++ C .u8 (cn 64 (8 * x)) := by
          rw [pdg, HZ.out, ← C_append]; rfl
        rw [C_length, hcl] at ho2
        rw [e]
        exact own_base ho2 hsz1
      have hbF := hb1.trans (hb2.mono hsz1)
      clear hg2 hsA hso ho hb hb2
      go_wp2
      go_ret
      exact ⟨_, _, rfl, ho2, hbF⟩
set_option maxHeartbeats 1600000 in
theorem padding_large (x : Nat) (hx : x < 1152921504606846000) (w : World) :
    Calls Tryd.prog 100 #[.int .u64 (x : Int), .int .i64 128] w fun e w' => ∃ v' n, e = .returned v' ∧ w'.ownsRow w.heap.size 5 1 v' n (C .u8 (pdg 128 16 x)) ∧ Below w.heap.size w w' := by
  obtain ⟨z, hz⟩ : ∃ z, (128 - (x + 17) % 128) % 128 = z := ⟨_, rfl⟩
  have HZ := Away.mk hz
  have hz1 : z < 128 := by omega
  have hz2 : (x + 17 + z) % 128 = 0 := by omega
  have hz3 : ∀ j, j < z → (x + 17 + j) % 128 ≠ 0 := by intro j hj; omega
  clear hz
  go_enter Tryd.func100, Tryd.ntmps100
  go_wp2_with fail
  refine (bits_large x (by omega) _).mono ?_
  rintro _ w1 ⟨cv, rfl, hoc, hb1⟩
  have hsc := SlV.ofOwn hoc
  have hcl : (cn 128 (8 * x)).length = 16 := cn_length _ _
  obtain ⟨ca, cc, rfl, hc1, hc2⟩ := hsc.shp hcl
  have hR := Row.new w1 5 (C .u8 [128])
  have ho := hR.owns (base := w1.heap.size) (n := 1) (cap := 1) (Nat.le_refl _) (by simp [C]) (by simp [C, maxLen])
  have hA := (Below.more (Below.refl w1.heap.size w1) (Nat.le_refl _) (.cells (C .u8 [128]).toArray 5)).1
  have e1 : (C .u8 [128]).take 1 = C .u8 (128 :: Z 0) := rfl
  rw [e1] at ho
  clear hR e1 hoc
  have hsz1 := hb1.size
  go_wp2
  go_loopw [6] (fun v wr => ∃ j : Nat, v = v ∧ j ≤ z ∧ lenS v = 1 + j ∧ wr.ownsRow w1.heap.size 5 1 v (1 + j) (C .u8 (128 :: Z j)) ∧ Below w1.heap.size w1 wr) (fun v _ => 1 + z - lenS v)
  case atStart => exact ⟨0, rfl, Nat.zero_le _, rfl, ho, hA⟩
  case round =>
    clear ho hA
    obtain ⟨j, -, hj, hlen, ho, hb⟩ := hrel
    have hso := SlV.ofOwn ho
    obtain ⟨p, hp⟩ : ∃ p, 1 + j = p := ⟨_, rfl⟩
    rw [hp] at ho
    obtain ⟨sa, sc, rfl, h1, h2⟩ := hso.shp (n := p) (by simp [Z_length]; omega)
    by_cases hlt : j < z
    · have hd : (((x : Int) + ((p : Int) + 16)) % 128 != 0) = true := by
        have := hz3 j hlt
        simp only [bne_iff_ne, ne_eq]
        omega
      have hoA := ho.alloc (.cells #[.int .u8 0] 5)
      have hsA := SlV_one wr (.int .u8 0) 5
      have hbA := Below.more hb hb.size (.cells #[.int .u8 0] 5)
      clear hso
      go_wp2_with (at_builtin; refine wpList_append_sl rfl (.tmp 23) (.tmp 24) 22 rfl w1.heap.size 5 _ 1 Tryd.underlying22 S2.inf8 rfl _ p _ rfl hoA _ [.int .u8 0] rfl hsA (by simp [Value.oneCell']) (by simp [maxLen]; omega) (by simp; omega) hbA.2 ?_)
      intro v2 w2 ho2 hg2
      have hb2 : Below w1.heap.size w1 w2 := hbA.1.grown hg2 hbA.2 (fun k hk => (hoA.lt k hk).1)
      have ho2 : w2.ownsRow w1.heap.size 5 1 v2 (1 + (j + 1)) (C .u8 (128 :: Z (j + 1))) := by
        have e : C .u8 (128 :: Z (j + 1)) = C .u8 (128 :: Z j) ++ [.int .u8 0] := by
          rw [Z, List.replicate_succ', ← List.cons_append, C_append]; rfl
        rw [e, show 1 + (j + 1) = p + [Value.int .u8 0].length by simp; omega]
        exact ho2
      clear hg2 hoA hsA hbA ho hb
      have hlen2 : lenS v2 = 1 + (j + 1) := by
        obtain ⟨a2, c2, rfl, _, _⟩ := (SlV.ofOwn ho2).shp (n := 1 + (j + 1)) (by simp [Z_length]; omega)
        rfl
      go_wp2
      go_roundw
      case rel => exact ⟨j + 1, trivial, by omega, hlen2, ho2, hb2⟩
      case measure => rw [hlen2]; simp only [lenS]; omega
    · obtain rfl : j = z := by omega
      have hd : (((x : Int) + ((p : Int) + 16)) % 128 != 0) = false := by
        simp only [bne_eq_false_iff_eq]
        omega
      have hsA := hsc.below hb
      go_wp2_with (at_builtin; refine wpList_append_sl rfl (.tmp 26) (.tmp 27) 22 rfl w1.heap.size 5 _ 1 Tryd.underlying22 S2.inf8 rfl _ p _ rfl ho _ (C .u8 (cn 128 (8 * x))) rfl hsA (C_one _ _) (by rw [C_length, hcl]; unfold maxLen; omega) (by rw [C_length, hcl]; omega) hb.size ?_)
      intro v2 w2 ho2 hg2
      have hb2 : Below w1.heap.size w1 w2 := hb.grown hg2 hb.size (fun k hk => (ho.lt k hk).1)
      have ho2 : w2.ownsRow w.heap.size 5 1 v2 (p + 16) (C .u8 (pdg 128 16 x)) := by
        have e : C .u8 (pdg 128 16 x) = C .u8 (128 :: Z j) ++ C .u8 (cn 128 (8 * x)) := by
          rw [pdg, HZ.out, ← C_append]; rfl
        rw [C_length, hcl] at ho2
        rw [e]
        exact own_base ho2 hsz1
      have hbF := hb1.trans (hb2.mono hsz1)
      clear hg2 hsA hso ho hb hb2
      go_wp2
      go_ret
      exact ⟨_, _, rfl, ho2, hbF⟩
end Go.Proofs.YtmbaenodibfedaaDoor.S9
