/-
  The contract of the document's Block of the second hash, over this seat's translation. Conditions: 64 bytes.
-/
import Derived.Test.YtmbaenodibfedaaDoorRf2P
import Derived.Test.YtmbaenodibfedaaDoorRf2A
import Derived.Test.YtmbaenodibfedaaDoorKit7
namespace Go.Proofs.YtmbaenodibfedaaDoor.S2
open Go.RowKit
open S1 (or_lt32 and_lt32 xor_lt32 shr_lt32 mod_lt32 wd wd_lt be be8 zs1 pad1 out4 not32)
set_option linter.unusedVariables false
set_option maxRecDepth 10000

/-- Four bytes put together, as the operations write it. -/
theorem or4 (x0 x1 x2 x3 : Nat) (h0 : x0 < 256) (h1 : x1 < 256) (h2 : x2 < 256) (h3 : x3 < 256) :
    ∃ p0 p1 p2 z1 z2 z3 : Nat, z3 = x0 * 16777216 + x1 * 65536 + x2 * 256 + x3 ∧ IntKind.u32.wrap ((x0 : Int) * 16777216) = (p0 : Int) ∧ IntKind.u32.wrap ((x1 : Int) * 65536) = (p1 : Int) ∧ IntKind.u32.wrap ((x2 : Int) * 256) = (p2 : Int) ∧
      bits .or .u32 (p0 : Int) (p1 : Int) = (z1 : Int) ∧ bits .or .u32 (z1 : Int) (p2 : Int) = (z2 : Int) ∧ bits .or .u32 (z2 : Int) (x3 : Int) = (z3 : Int) := by
  refine ⟨x0 * 16777216, x1 * 65536, x2 * 256, x0 * 16777216 + x1 * 65536, x0 * 16777216 + x1 * 65536 + x2 * 256, _, rfl, ?_, ?_, ?_, ?_, ?_, ?_⟩
  · rw [IntKind.wrap_u32']; omega
  · rw [IntKind.wrap_u32']; omega
  · rw [IntKind.wrap_u32']; omega
  · have := or32 24 x0 ((x1 : Int) * 65536) (by omega) (by omega) (by omega) (by omega)
    rw [show (2 : Int) ^ 24 = 16777216 from rfl] at this
    rw [show ((x0 * 16777216 : Nat) : Int) = (x0 : Int) * 16777216 by omega, show ((x1 * 65536 : Nat) : Int) = (x1 : Int) * 65536 by omega, this]; omega
  · have := or32 16 ((x0 : Int) * 256 + x1) ((x2 : Int) * 256) (by omega) (by omega) (by omega) (by omega)
    rw [show (2 : Int) ^ 16 = 65536 from rfl] at this
    rw [show ((x0 * 16777216 + x1 * 65536 : Nat) : Int) = ((x0 : Int) * 256 + x1) * 65536 by omega, show ((x2 * 256 : Nat) : Int) = (x2 : Int) * 256 by omega, this]; omega
  · have := or32 8 ((x0 : Int) * 65536 + x1 * 256 + x2) (x3 : Int) (by omega) (by omega) (by omega) (by omega)
    rw [show (2 : Int) ^ 8 = 256 from rfl] at this
    rw [show ((x0 * 16777216 + x1 * 65536 + x2 * 256 : Nat) : Int) = ((x0 : Int) * 65536 + x1 * 256 + x2) * 256 by omega, this]; omega
theorem wrap8 (x : Nat) (h : x < 256) : IntKind.u32.wrap (x : Int) = (x : Int) := by rw [IntKind.wrap_u32']; omega
/-- The numbers, the first k of them added. -/
def mixl (s S : S8) (k : Nat) : List Nat := (add2 s S).list.take k ++ S.list.drop k
theorem mixl_length (s S : S8) (k : Nat) : (mixl s S k).length = 8 := by simp [mixl, S8.list]; omega
theorem mixl_all (s S : S8) : mixl s S 8 = (add2 s S).list := rfl
theorem mixl_get (s S : S8) (k : Nat) (h : k < 8) : (mixl s S k).getD k 0 = S.list.getD k 0 := by
  have h' : k = 0 ∨ k = 1 ∨ k = 2 ∨ k = 3 ∨ k = 4 ∨ k = 5 ∨ k = 6 ∨ k = 7 := by omega
  rcases h' with rfl | rfl | rfl | rfl | rfl | rfl | rfl | rfl <;> rfl
theorem mixl_succ (s S : S8) (k : Nat) (h : k < 8) : (mixl s S k).set k ((s.list.getD k 0 + S.list.getD k 0) % 4294967296) = mixl s S (k + 1) := by
  have h' : k = 0 ∨ k = 1 ∨ k = 2 ∨ k = 3 ∨ k = 4 ∨ k = 5 ∨ k = 6 ∨ k = 7 := by omega
  rcases h' with rfl | rfl | rfl | rfl | rfl | rfl | rfl | rfl <;> rfl
theorem sch2_first (b : List Nat) (t : Nat) (h : t < 16) : sch2 b (t + 1) = sch2 b t ++ [wd b t] := by rw [sch2, if_pos h]
theorem sch2_next (b : List Nat) (t : Nat) (h : 16 ≤ t) : sch2 b (t + 1) = sch2 b t ++ [nxt2 (sch2 b t) t] := by rw [sch2, if_neg (by omega)]

set_option maxRecDepth 10000 in
set_option maxHeartbeats 4000000 in
theorem refblock_any (s : S8) (hs : s.ok) (v : Value) (b : List Nat) (w : World) (hv : SlV w v (C .u8 b)) (hb : Lo 256 b) (hl : b.length = 64) :
    Calls Tryd.prog 43 #[.agg (C .u32 s.list).toArray, v] w fun e w' => e = .returned (.agg (C .u32 (blk2 s b).list).toArray) ∧ Below w.heap.size w w' := by
  obtain ⟨sa, sc, rfl, h1, h2⟩ := hv.shp hl
  obtain ⟨bb, off, rfl, hbl, hcx⟩ := hv.cells (by rw [C_length]; omega)
  have hA := ((Row.new w 65 (C .u32 s.list)).alloc (.cells (C .u32 (Z 8)).toArray 65)).alloc (.cells #[] 58)
  have hB := (Row.newAt (w.alloc (.cells (C .u32 s.list).toArray 65)) (w.heap.size + 1) (by simp) 65 (C .u32 (Z 8))).alloc (.cells #[] 58)
  have hO := own_empty_at ((w.alloc (.cells (C .u32 s.list).toArray 65)).alloc (.cells (C .u32 (Z 8)).toArray 65)) (w.heap.size + 1 + 1) (w.heap.size + 1 + 1) 58 (by simp) (by simp)
  have hL0 := Below.more (Below.refl w.heap.size w) (Nat.le_refl _) (.cells (C .u32 s.list).toArray 65)
  have hL1 := Below.more hL0.1 hL0.2 (.cells (C .u32 (Z 8)).toArray 65)
  have hL := (Below.more hL1.1 hL1.2 (.cells #[] 58)).1
  clear hL0 hL1
  go_enter Tryd.func43, Tryd.ntmps43
  go_wp2_with (refine wpList_alloc_row rfl 65 rfl _ z8 ?_)
  generalize ((w.alloc (.cells (C .u32 s.list).toArray 65)).alloc (.cells (C .u32 (Z 8)).toArray 65)).alloc (.cells #[] 58) = w3 at *
  go_loopw [5, 6] (fun v i wr => ∃ k : Nat, k ≤ 64 ∧ i = .int .i64 k ∧ wr.ownsRow (w.heap.size + 1 + 1) 58 1 v k (C .u32 (sch2 b k)) ∧ Row wr w.heap.size 65 (C .u32 s.list) ∧ Row wr (w.heap.size + 1) 65 (C .u32 (Z 8)) ∧ Below w.heap.size w wr) (fun _ i _ => 64 - (intOf i).toNat)
  case atStart => exact ⟨0, Nat.zero_le _, rfl, hO, hA, hB, hL⟩
  case round =>
    clear hO hA hB hL
    obtain ⟨k, hk, rfl, hO, hA, hB, hL⟩ := hrel
    by_cases h16 : k < 16
    · have hc : ∀ i, i < 64 → wr.cell? ⟨bb, off + i, none⟩ = some (.int .u8 (b.getD i 0 : Nat)) := fun i hi => by
        have h := hcx i _ (C_get .u8 (show i < b.length by omega))
        exact (hL.cell (p := ⟨bb, off + i, none⟩) hbl).trans h
      obtain ⟨n0, hn0⟩ : ∃ n, 4 * k = n := ⟨_, rfl⟩
      have c0 := hc n0 (by omega)
      have c1 := hc (n0 + 1) (by omega)
      have c2 := hc (n0 + 2) (by omega)
      have c3 := hc (n0 + 3) (by omega)
      have x0 := hb.getD (by decide) n0
      have x1 := hb.getD (by decide) (n0 + 1)
      have x2 := hb.getD (by decide) (n0 + 2)
      have x3 := hb.getD (by decide) (n0 + 3)
      have HW : Away (wd b k = b.getD n0 0 * 16777216 + b.getD (n0 + 1) 0 * 65536 + b.getD (n0 + 2) 0 * 256 + b.getD (n0 + 3) 0) := ⟨by rw [← hn0]; rfl⟩
      generalize b.getD n0 0 = y0 at *
      generalize b.getD (n0 + 1) 0 = y1 at *
      generalize b.getD (n0 + 2) 0 = y2 at *
      generalize b.getD (n0 + 3) 0 = y3 at *
      obtain ⟨p0, p1, p2, z1, z2, z3, hz, r0, r1, r2, o1, o2, o3⟩ := or4 y0 y1 y2 y3 x0 x1 x2 x3
      have w0 := wrap8 y0 x0
      have w1 := wrap8 y1 x1
      have w2 := wrap8 y2 x2
      have w3' := wrap8 y3 x3
      rw [← hz] at HW
      obtain ⟨n1, hn1⟩ : ∃ n, n0 + 1 = n := ⟨_, rfl⟩
      obtain ⟨n2, hn2⟩ : ∃ n, n0 + 2 = n := ⟨_, rfl⟩
      obtain ⟨n3, hn3⟩ : ∃ n, n0 + 3 = n := ⟨_, rfl⟩
      rw [hn1] at c1; rw [hn2] at c2; rw [hn3] at c3
      have d0 : IntKind.i64.wrap (4 * (k : Int)) = (n0 : Int) := by rw [IntWalk.i64_in _ ⟨by omega, by omega⟩]; omega
      have dz : IntKind.i64.wrap (n0 : Int) = (n0 : Int) := by rw [IntWalk.i64_in _ ⟨by omega, by omega⟩]
      have d1 : IntKind.i64.wrap ((n0 : Int) + 1) = (n1 : Int) := by rw [IntWalk.i64_in _ ⟨by omega, by omega⟩]; omega
      have d2 : IntKind.i64.wrap ((n0 : Int) + 2) = (n2 : Int) := by rw [IntWalk.i64_in _ ⟨by omega, by omega⟩]; omega
      have d3 : IntKind.i64.wrap ((n0 : Int) + 3) = (n3 : Int) := by rw [IntWalk.i64_in _ ⟨by omega, by omega⟩]; omega
      have b0 : (n0 : Int) < 64 := by omega
      have b1 : (n1 : Int) < 64 := by omega
      have b2 : (n2 : Int) < 64 := by omega
      have b3 : (n3 : Int) < 64 := by omega
      have h16i : (k : Int) < 16 := by omega
      have h64i : (k : Int) < 64 := by omega
      clear hn0 hn1 hn2 hn3 hz hc
      have HO := Away.mk hO
      have HL := Away.mk hL
      have HA := Away.mk hA
      have HB := Away.mk hB
      clear hO hL hA hB
      go_wp2
      have hsz := HL.out.size
      have hcw : ∀ (n y : Nat), wr.cell? ⟨bb, off + n, none⟩ = some (.int .u8 (y : Int)) → w.cell? ⟨bb, off + n, none⟩ = some (.int .u8 (y : Int)) := fun n y h => (HL.out.cell (p := ⟨bb, off + n, none⟩) hbl).symm.trans h
      have HW' := Away.mk hcw
      clear hcw
      have hone : (wr.alloc (.cells #[.int .u32 (z3 : Int)] 58)).drew.cell? ⟨wr.heap.size, 0, none⟩ = some (.int .u32 (z3 : Int)) := by simp [go_sem]
      have q1 : k + 1 ≤ maxLen := by unfold maxLen; omega
      have q2 : (k + 1) * 4 ≤ 140737488355328 := by omega
      have q3 : w.heap.size + 1 + 1 ≤ ((wr.alloc (.cells #[.int .u32 (z3 : Int)] 58)).drew).heap.size := by have := HB.out.lt; simp; omega
      have HO1 : Away (((wr.alloc (.cells #[.int .u32 (z3 : Int)] 58)).drew).ownsRow (w.heap.size + 1 + 1) 58 1 u5 k (C .u32 (sch2 b k))) := ⟨World.ownsRow.drew (HO.out.alloc _)⟩
      have hnA : ∀ g, g < w.heap.size + 1 + 1 → some g ≠ u5.ownBlock := fun g hg he => by have := (HO.out.lt g he.symm).1; omega
      have HRA : Away (∀ w4, ((wr.alloc (.cells #[.int .u32 (z3 : Int)] 58)).drew).grownBy w4 u5.ownBlock → Row w4 w.heap.size 65 (C .u32 s.list) ∧ Row w4 (w.heap.size + 1) 65 (C .u32 (Z 8))) := ⟨fun w4 hg => ⟨((HA.out.alloc _).drew).grown hg (hnA _ (by omega)), ((HB.out.alloc _).drew).grown hg (hnA _ (by omega))⟩⟩
      clear hnA
      have HG : Away (∀ w4, ((wr.alloc (.cells #[.int .u32 (z3 : Int)] 58)).drew).grownBy w4 u5.ownBlock → Below w.heap.size w w4) := ⟨fun w4 hg => ((HL.out.alloc hsz _).drew).grown hg (by simp; omega) (fun k hk => by have := (HO.out.lt k hk).1; omega)⟩
      go_region_held3 (fun w' => w'.cell? ⟨bb, off + n0, none⟩ = some (.int .u8 (y0 : Int)) ∧ w'.cell? ⟨bb, off + n1, none⟩ = some (.int .u8 (y1 : Int)) ∧ w'.cell? ⟨bb, off + n2, none⟩ = some (.int .u8 (y2 : Int)) ∧ w'.cell? ⟨bb, off + n3, none⟩ = some (.int .u8 (y3 : Int)))
        (first | exact ⟨c0, c1, c2, c3⟩ | exact ⟨cell_alloc c0 _, cell_alloc c1 _, cell_alloc c2 _, cell_alloc c3 _⟩ | exact ⟨f0, f1, f2, f3⟩)
        ((refine step_append_one (by rfl) (.tmp 26) (.tmp 61) 95 (by rfl) (w.heap.size + 1 + 1) 58 _ 4 Tryd.underlying95 inf32 rfl _ k _ (by rfl) HO1.out _ _ (.int .u32 (z3 : Int)) (by rfl) hone rfl q1 q2 q3 ?_; intro v4 w4 ho4 hg4 hk4; have hb4 := HG.out _ hg4; have f0 := (hb4.cell (p := ⟨bb, off + n0, none⟩) hbl).trans (HW'.out _ _ c0); have f1 := (hb4.cell (p := ⟨bb, off + n1, none⟩) hbl).trans (HW'.out _ _ c1); have f2 := (hb4.cell (p := ⟨bb, off + n2, none⟩) hbl).trans (HW'.out _ _ c2); have f3 := (hb4.cell (p := ⟨bb, off + n3, none⟩) hbl).trans (HW'.out _ _ c3)))
      obtain ⟨hA4, hB4⟩ := HRA.out _ hg4
      have ho4' : w4.ownsRow (w.heap.size + 1 + 1) 58 1 v4 (k + 1) (C .u32 (sch2 b (k + 1))) := by
        rw [sch2_first b k h16, ← C_snoc, HW.out]; exact ho4
      clear hk4 q1 q2 q3 HRA HG HO1 HO HL HA HB hone HW' hg4 ho4 f0 f1 f2 f3 c0 c1 c2 c3 r0 r1 r2 o1 o2 o3 w0 w1 w2 w3' dz d0 d1 d2 d3
      have G1 := Away.mk ho4'
      have G2 := Away.mk hA4
      have G3 := Away.mk hB4
      have G4 := Away.mk hb4
      clear ho4' hA4 hB4 hb4 hcx hv x0 x1 x2 x3 b0 b1 b2 b3 hsz
      go_wp2
      go_roundw
      case rel => exact ⟨k + 1, by omega, by go_num, G1.out, G2.out, G3.out, G4.out⟩
      case measure => simp [intOf]; omega
    · by_cases h64 : k < 64
      · have hlS := sch2_length b k
        obtain ⟨g, cap, rfl, hbg, hgl, hnc, hcm⟩ := own_shape hO (by omega)
        have hg : ∀ j, 1 ≤ j → j ≤ 16 → wr.cell? ⟨g, k - j, none⟩ = some (.int .u32 ((sch2 b k).getD (k - j) 0 : Nat)) := by
          intro j h1 h16
          rw [hO.cellAt (k - j) (by omega), C_get .u32 (by omega)]
        have hgx : ∀ j, 1 ≤ j → j ≤ 16 → (C .u32 (sch2 b k))[k - j]? = some (.int .u32 ((sch2 b k).getD (k - j) 0 : Nat)) := fun j h1 h16 => C_get .u32 (by omega)
        have c2 := hg 2 (by decide) (by decide)
        have c7 := hg 7 (by decide) (by decide)
        have c15 := hg 15 (by decide) (by decide)
        have c16 := hg 16 (by decide) (by decide)
        have E7 := Away.mk (hgx 7 (by decide) (by decide))
        have E16 := Away.mk (hgx 16 (by decide) (by decide))
        have hlo := (sch2_lo hb k).getD (by decide)
        have l2 := hlo (k - 2)
        have l7 := hlo (k - 7)
        have l15 := hlo (k - 15)
        have l16 := hlo (k - 16)
        have HN : Away (nxt2 (sch2 b k) k = (spr 17 19 10 ((sch2 b k).getD (k - 2) 0) + (sch2 b k).getD (k - 7) 0 + spr 7 18 3 ((sch2 b k).getD (k - 15) 0) + (sch2 b k).getD (k - 16) 0) % 4294967296) := ⟨rfl⟩
        clear hg hgx hlo
        generalize (sch2 b k).getD (k - 2) 0 = x2 at *
        generalize (sch2 b k).getD (k - 7) 0 = x7 at *
        generalize (sch2 b k).getD (k - 15) 0 = x15 at *
        generalize (sch2 b k).getD (k - 16) 0 = x16 at *
        have r15a := refturn_any x15 7 l15 (by decide)
        have r15b := refturn_any x15 18 l15 (by decide)
        have o15a := u32_xor_nat (ror 7 x15) (ror 18 x15) (ror_lt l15 _) (ror_lt l15 _)
        have o15b := u32_xor_nat (ror 7 x15 ^^^ ror 18 x15) (x15 / 2 ^ 3) (xor_lt32 (ror_lt l15 _) (ror_lt l15 _)) (shr_lt32 l15 _)
        have es15 : ror 7 x15 ^^^ ror 18 x15 ^^^ (x15 / 2 ^ 3) = spr 7 18 3 x15 := rfl
        rw [es15] at o15b
        have ey15 : (x15 : Int) / 8 = ((x15 / 2 ^ 3 : Nat) : Int) := by simp
        have ls15 := spr_lt l15 7 18 3
        generalize spr 7 18 3 x15 = s15 at *
        generalize ror 7 x15 = p15 at *
        generalize ror 18 x15 = q15 at *
        generalize x15 / 2 ^ 3 = d15 at *
        clear es15
        have r2a := refturn_any x2 17 l2 (by decide)
        have r2b := refturn_any x2 19 l2 (by decide)
        have o2a := u32_xor_nat (ror 17 x2) (ror 19 x2) (ror_lt l2 _) (ror_lt l2 _)
        have o2b := u32_xor_nat (ror 17 x2 ^^^ ror 19 x2) (x2 / 2 ^ 10) (xor_lt32 (ror_lt l2 _) (ror_lt l2 _)) (shr_lt32 l2 _)
        have es2 : ror 17 x2 ^^^ ror 19 x2 ^^^ (x2 / 2 ^ 10) = spr 17 19 10 x2 := rfl
        rw [es2] at o2b
        have ey2 : (x2 : Int) / 1024 = ((x2 / 2 ^ 10 : Nat) : Int) := by simp
        have ls2 := spr_lt l2 17 19 10
        generalize spr 17 19 10 x2 = s2 at *
        generalize ror 17 x2 = p2 at *
        generalize ror 19 x2 = q2 at *
        generalize x2 / 2 ^ 10 = d2 at *
        clear es2
        obtain ⟨z, hz⟩ : ∃ z, (s2 + x7 + s15 + x16) % 4294967296 = z := ⟨_, rfl⟩
        rw [hz] at HN
        obtain ⟨y1, e1, y2, e2, e3⟩ : ∃ y1 : Nat, IntKind.u32.wrap ((s2 : Int) + (x7 : Int)) = (y1 : Int) ∧ ∃ y2 : Nat, IntKind.u32.wrap ((y1 : Int) + (s15 : Int)) = (y2 : Int) ∧ IntKind.u32.wrap ((y2 : Int) + (x16 : Int)) = (z : Int) :=
          ⟨(s2 + x7) % 4294967296, by rw [IntKind.wrap_u32']; omega, ((s2 + x7) % 4294967296 + s15) % 4294967296, by rw [IntKind.wrap_u32']; omega, by rw [IntKind.wrap_u32']; omega⟩
        clear hz
        obtain ⟨n2, f2, b2, w2⟩ : ∃ n : Nat, k - 2 = n ∧ (n : Int) < (k : Int) ∧ IntKind.i64.wrap ((k : Int) - 2) = (n : Int) := ⟨k - 2, rfl, by omega, by rw [IntWalk.i64_in _ ⟨by omega, by omega⟩]; omega⟩
        obtain ⟨n7, f7, b7, w7⟩ : ∃ n : Nat, k - 7 = n ∧ (n : Int) < (k : Int) ∧ IntKind.i64.wrap ((k : Int) - 7) = (n : Int) := ⟨k - 7, rfl, by omega, by rw [IntWalk.i64_in _ ⟨by omega, by omega⟩]; omega⟩
        obtain ⟨n15, f15, b15, w15⟩ : ∃ n : Nat, k - 15 = n ∧ (n : Int) < (k : Int) ∧ IntKind.i64.wrap ((k : Int) - 15) = (n : Int) := ⟨k - 15, rfl, by omega, by rw [IntWalk.i64_in _ ⟨by omega, by omega⟩]; omega⟩
        obtain ⟨n16, f16, b16, w16⟩ : ∃ n : Nat, k - 16 = n ∧ (n : Int) < (k : Int) ∧ IntKind.i64.wrap ((k : Int) - 16) = (n : Int) := ⟨k - 16, rfl, by omega, by rw [IntWalk.i64_in _ ⟨by omega, by omega⟩]; omega⟩
        rw [f2] at c2; rw [f7] at c7 E7; rw [f15] at c15; rw [f16] at c16 E16
        clear f2 l2 f7 l7 f15 l15 f16 l16
        have h64i : (k : Int) < 64 := by omega
        have h16i : ¬ (k : Int) < 16 := by omega
        have HO := Away.mk hO
        have HL := Away.mk hL
        have HA := Away.mk hA
        have HB := Away.mk hB
        clear hO hL hA hB
        go_wp2_with fail
        go_quiet (fail)
        obtain ⟨wq, hwq⟩ : ∃ wq : World, wr.drewN nq = wq := ⟨_, rfl⟩
        rw [hwq]
        have HO : Away (wq.ownsRow (w.heap.size + 1 + 1) 58 1 (.slice (some ⟨g, 0, none⟩) k cap) k (C .u32 (sch2 b k))) := ⟨by rw [← hwq]; exact HO.out⟩
        have HL : Away (Below w.heap.size w wq) := ⟨by rw [← hwq]; exact below_drewN HL.out nq⟩
        have HA : Away (Row wq w.heap.size 65 (C .u32 s.list)) := ⟨by rw [← hwq]; exact HA.out⟩
        have HB : Away (Row wq (w.heap.size + 1) 65 (C .u32 (Z 8))) := ⟨by rw [← hwq]; exact HB.out⟩
        have c7 : wq.cell? ⟨g, n7, none⟩ = some (.int .u32 (x7 : Int)) := by rw [← hwq]; exact c7
        have c16 : wq.cell? ⟨g, n16, none⟩ = some (.int .u32 (x16 : Int)) := by rw [← hwq]; exact c16
        clear hwq c2 c15
        go_wp2_with fail
        refine (r15a _).mono ?_
        rintro _ w' ⟨rfl, rfl⟩
        go_wp2_with fail
        refine (r15b _).mono ?_
        rintro _ w' ⟨rfl, rfl⟩
        go_wp2_with fail
        refine (r2a _).mono ?_
        rintro _ w' ⟨rfl, rfl⟩
        go_wp2_with fail
        refine (r2b _).mono ?_
        rintro _ w' ⟨rfl, rfl⟩
        go_upto_region 10 with fail
        have hone : (wq.alloc (.cells #[.int .u32 (z : Int)] 58)).drew.cell? ⟨wq.heap.size, 0, none⟩ = some (.int .u32 (z : Int)) := by simp [go_sem]
        have q1 : k + 1 ≤ maxLen := by unfold maxLen; omega
        have q2 : (k + 1) * 4 ≤ 140737488355328 := by omega
        have q3 : w.heap.size + 1 + 1 ≤ ((wq.alloc (.cells #[.int .u32 (z : Int)] 58)).drew).heap.size := by have := HB.out.lt; simp; omega
        have HO1 : Away (((wq.alloc (.cells #[.int .u32 (z : Int)] 58)).drew).ownsRow (w.heap.size + 1 + 1) 58 1 (.slice (some ⟨g, 0, none⟩) k cap) k (C .u32 (sch2 b k))) := ⟨World.ownsRow.drew (HO.out.alloc _)⟩
        have HRA : Away (∀ w4, ((wq.alloc (.cells #[.int .u32 (z : Int)] 58)).drew).grownBy w4 (some g) → Row w4 w.heap.size 65 (C .u32 s.list) ∧ Row w4 (w.heap.size + 1) 65 (C .u32 (Z 8)) ∧ Below w.heap.size w w4) := ⟨fun w4 hg => ⟨((HA.out.alloc _).drew).grown hg (by simp; omega), ((HB.out.alloc _).drew).grown hg (by simp; omega), ((HL.out.alloc HL.out.size _).drew).grown hg (by have := HL.out.size; simp; omega) (fun k hk => by simp only [Option.some.injEq] at hk; omega)⟩⟩
        clear o15a o15b o2a o2b r15a r15b r2a r2b ey2 ey15
        go_region_held3 (fun w' => w'.cell? ⟨g, n7, none⟩ = some (.int .u32 (x7 : Int)) ∧ w'.cell? ⟨g, n16, none⟩ = some (.int .u32 (x16 : Int)))
          (first | exact ⟨c7, c16⟩ | exact ⟨cell_alloc c7 _, cell_alloc c16 _⟩ | exact ⟨f0, f1⟩)
          (first | (refine step_append_one (by rfl) (.tmp 89) (.tmp 105) 95 (by rfl) (w.heap.size + 1 + 1) 58 _ 4 Tryd.underlying95 inf32 rfl _ k _ (by rfl) HO1.out _ _ (.int .u32 (z : Int)) (by rfl) hone rfl q1 q2 q3 ?_; intro v4 w4 ho4 hg4 hk4; have f0 := hk4 g cap rfl _ _ E7.out; have f1 := hk4 g cap rfl _ _ E16.out))
        obtain ⟨hA4, hB4, hb4⟩ := HRA.out _ hg4
        have ho4' : w4.ownsRow (w.heap.size + 1 + 1) 58 1 v4 (k + 1) (C .u32 (sch2 b (k + 1))) := by
          rw [sch2_next b k (by omega), ← C_snoc, HN.out]; exact ho4
        have G1 := Away.mk ho4'
        have G2 := Away.mk hA4
        have G3 := Away.mk hB4
        have G4 := Away.mk hb4
        clear ho4' hA4 hB4 hb4 hcx hv hk4 q1 q2 q3 HRA HO1 HO HL HA HB hone hg4 ho4 f0 f1 c7 c16 E7 E16 w2 w7 w15 w16 b2 b7 b15 b16 e1 e2 e3
        go_wp2
        go_roundw
        case rel => exact ⟨k + 1, by omega, by go_num, G1.out, G2.out, G3.out, G4.out⟩
        case measure => simp [intOf]; omega
      · have HK64 : Away (k = 64) := ⟨by omega⟩
        have hlW : (sch2 b k).length = k := sch2_length b k
        have hWlo := sch2_lo hb k
        have hkE : sch2 b k = sch2 b 64 := by rw [HK64.out]
        obtain ⟨g, cap, rfl, hbg, hgl, hnc, hcm⟩ := own_shape hO (by omega)
        have hWs : SlV wr (.slice (some ⟨g, 0, none⟩) k cap) (C .u32 (sch2 b 64)) := by rw [← hkE]; exact SlV.ofOwn hO
        rw [hkE] at hlW hWlo
        have HBk : Away (blk2 s b = add2 s (stps2 (sch2 b 64) s 64)) := ⟨rfl⟩
        generalize sch2 b 64 = W at *
        have h64i : ¬ (k : Int) < 64 := by omega
        have i5s : (Tryd.prog.info? 65).map (·.size) = some (C .u32 s.list).toArray.size := i8
        have i5l : (Tryd.prog.info? 65).map (·.size) = some (C .u32 s.list).length := i8
        have h55 : (C .u32 (Z 8)).length = (C .u32 s.list).length := rfl
        clear hO hkE hcx hv
        go_wp2_with fail
        refine (refsteps_any _).mono ?_
        rintro _ w1 ⟨rfl, rfl⟩
        have hAlt := hA.lt
        have hBlt := hB.lt
        have hKr := Row.new wr 58 (C .u32 K2L)
        have hA := hA.alloc (.cells (C .u32 K2L).toArray 58)
        have hB := hB.alloc (.cells (C .u32 K2L).toArray 58)
        have hWs := hWs.below ((Below.refl wr.heap.size wr).alloc (Nat.le_refl _) (.cells (C .u32 K2L).toArray 58))
        have hL := (Below.more hL hL.size (.cells (C .u32 K2L).toArray 58)).1
        obtain ⟨gk, hgk⟩ : ∃ gk, wr.heap.size = gk := ⟨_, rfl⟩
        rw [hgk] at hKr hAlt hBlt hgl ⊢
        generalize wr.alloc (.cells (C .u32 K2L).toArray 58) = wk at *
        clear hgk
        have hN1 := Row.new wk 65 (C .u32 (Z 8))
        have hL1 := Below.more hL hL.size (.cells (C .u32 (Z 8)).toArray 65)
        have hA1 := hA.alloc (.cells (C .u32 (Z 8)).toArray 65)
        have hB1 := hB.alloc (.cells (C .u32 (Z 8)).toArray 65)
        have hK1 := hKr.alloc (.cells (C .u32 (Z 8)).toArray 65)
        have hW1 := hWs.below ((Below.refl wk.heap.size wk).alloc (Nat.le_refl _) (.cells (C .u32 (Z 8)).toArray 65))
        go_upto_region 13 with (first | refine wpList_load_row rfl 65 _ rfl _ rfl _ _ _ _ hA Tryd.underlying65 rfl i5s ?_ | refine wpList_alloc_row rfl 65 rfl _ z8 ?_ | (refine wpList_store_R rfl 65 _ _ rfl _ (C .u32 s.list) rfl rfl hN1 i5l h55 (C_allL _ _) ?_; intro w5 hV5 hg5 hz5))
        have hklt := hKr.lt
        have hA5 := hA1.grown hg5 (by simp <;> omega)
        have hB5 := hB1.grown hg5 (by simp <;> omega)
        have hK5 := hK1.grown hg5 (by simp <;> omega)
        have hL5 := below_grown hL1.1 hg5 hL.size hN1.lt
        have hW5 := hW1.grown hg5 (fun b hb => by simp [Value.ownBlock] at hb; subst hb; simp; omega)
        obtain ⟨gv, hgv⟩ : ∃ gv, wk.heap.size = gv := ⟨_, rfl⟩
        simp only [Act.put, List.setIfInBounds_toArray, List.set_cons_zero, List.set_cons_succ]
        rw [hgv] at hV5 hklt ⊢
        clear hN1 hL1 hA1 hB1 hK1 hW1 hg5 hz5 hA hB hKr hL hWs hgv
        go_wp2
        go_loopw [13] (fun i wx => ∃ t : Nat, t ≤ 64 ∧ i = .int .i64 t ∧ Row wx gv 65 (C .u32 (stps2 W s t).list) ∧ Row wx w.heap.size 65 (C .u32 s.list) ∧ Row wx (w.heap.size + 1) 65 (C .u32 (Z 8)) ∧ Row wx gk 58 (C .u32 K2L) ∧ SlV wx (.slice (some ⟨g, 0, none⟩) k cap) (C .u32 W) ∧ Below w.heap.size w wx) (fun i _ => 64 - (intOf i).toNat)
        case atStart => exact ⟨0, Nat.zero_le _, rfl, hV5, hA5, hB5, hK5, hW5, hL5⟩
        case round =>
          clear hV5 hA5 hB5 hK5 hW5 hL5
          obtain ⟨t, ht, rfl, hV, hA, hB, hKr, hWs, hL⟩ := hrel
          have HT : Away (stps2 W s (t + 1) = stp2 t (W.getD t 0) (stps2 W s t)) := ⟨rfl⟩
          obtain ⟨q1, q2, q3, q4, q5, q6, q7, q8⟩ := stps2_ok (ws := W) hs t
          by_cases hlt : t < 64
          · have htk : (t : Int) < (k : Int) := by have := HK64.out; omega
            have hct := hWs.cellAt (C_get .u32 (show t < W.length by omega))
            rw [Nat.zero_add] at hct
            have hkt := hKr.cell t
            rw [C_get .u32 (by rw [K2L_length]; exact hlt), show K2L.getD t 0 = K2 t from rfl] at hkt
            have hkl := K2_lt t
            have hx := hWlo.getD (by decide) t
            generalize W.getD t 0 = x at *
            generalize stps2 W s t = S at *
            obtain ⟨a, b', c, d, e, f, gg, hh⟩ := S
            simp only at *
            have hlti : (t : Int) < 64 := by omega
            have te6 : ∀ w : World, Calls Tryd.prog 60 #[.int .u32 (e : Int), .int .u64 6] w fun r w' => r = .returned (.int .u32 (ror 6 e : Nat)) ∧ w' = w := fun w => (refturn_any e 6 q5 (by decide) w).mono (fun r w' h => ⟨h.1, h.2.symm⟩)
            have te11 : ∀ w : World, Calls Tryd.prog 60 #[.int .u32 (e : Int), .int .u64 11] w fun r w' => r = .returned (.int .u32 (ror 11 e : Nat)) ∧ w' = w := fun w => (refturn_any e 11 q5 (by decide) w).mono (fun r w' h => ⟨h.1, h.2.symm⟩)
            have te25 : ∀ w : World, Calls Tryd.prog 60 #[.int .u32 (e : Int), .int .u64 25] w fun r w' => r = .returned (.int .u32 (ror 25 e : Nat)) ∧ w' = w := fun w => (refturn_any e 25 q5 (by decide) w).mono (fun r w' h => ⟨h.1, h.2.symm⟩)
            have ye1 := u32_xor_nat (ror 6 e) (ror 11 e) (ror_lt q5 _) (ror_lt q5 _)
            have ye2 := u32_xor_nat (ror 6 e ^^^ ror 11 e) (ror 25 e) (xor_lt32 (ror_lt q5 _) (ror_lt q5 _)) (ror_lt q5 _)
            have ye3 : ror 6 e ^^^ ror 11 e ^^^ ror 25 e = tri 6 11 25 e := rfl
            rw [ye3] at ye2
            have yel := tri_lt q5 6 11 25
            clear ye3
            have ta2 : ∀ w : World, Calls Tryd.prog 60 #[.int .u32 (a : Int), .int .u64 2] w fun r w' => r = .returned (.int .u32 (ror 2 a : Nat)) ∧ w' = w := fun w => (refturn_any a 2 q1 (by decide) w).mono (fun r w' h => ⟨h.1, h.2.symm⟩)
            have ta13 : ∀ w : World, Calls Tryd.prog 60 #[.int .u32 (a : Int), .int .u64 13] w fun r w' => r = .returned (.int .u32 (ror 13 a : Nat)) ∧ w' = w := fun w => (refturn_any a 13 q1 (by decide) w).mono (fun r w' h => ⟨h.1, h.2.symm⟩)
            have ta22 : ∀ w : World, Calls Tryd.prog 60 #[.int .u32 (a : Int), .int .u64 22] w fun r w' => r = .returned (.int .u32 (ror 22 a : Nat)) ∧ w' = w := fun w => (refturn_any a 22 q1 (by decide) w).mono (fun r w' h => ⟨h.1, h.2.symm⟩)
            have ya1 := u32_xor_nat (ror 2 a) (ror 13 a) (ror_lt q1 _) (ror_lt q1 _)
            have ya2 := u32_xor_nat (ror 2 a ^^^ ror 13 a) (ror 22 a) (xor_lt32 (ror_lt q1 _) (ror_lt q1 _)) (ror_lt q1 _)
            have ya3 : ror 2 a ^^^ ror 13 a ^^^ ror 22 a = tri 2 13 22 a := rfl
            rw [ya3] at ya2
            have yal := tri_lt q1 2 13 22
            clear ya3
            have o1 := u32_and_nat e f q5 q6
            have o2 : bits .xor .u32 (e : Int) 4294967295 = ((e ^^^ 4294967295 : Nat) : Int) := u32_xor_nat e 4294967295 q5 (by decide)
            have o3 := u32_and_nat (e ^^^ 4294967295) gg (xor_lt32 q5 (by decide)) q7
            have o4 := u32_xor_nat (e &&& f) ((e ^^^ 4294967295) &&& gg) (and_lt32 q5) (and_lt32 (xor_lt32 q5 (by decide)))
            have lc := ch2_lt (f := f) (g := gg) q5
            have ec : (e &&& f) ^^^ ((e ^^^ 4294967295) &&& gg) = ch2 e f gg := rfl
            rw [ec] at o4
            have p1 := u32_and_nat a b' q1 q2
            have p2 := u32_and_nat a c q1 q3
            have p3 := u32_and_nat b' c q2 q3
            have p4 := u32_xor_nat (a &&& b') (a &&& c) (and_lt32 q1) (and_lt32 q1)
            have p5 := u32_xor_nat ((a &&& b') ^^^ (a &&& c)) (b' &&& c) (xor_lt32 (and_lt32 q1) (and_lt32 q1)) (and_lt32 q2)
            have lm := mj2_lt (c := c) q1 q2
            have em : (a &&& b') ^^^ (a &&& c) ^^^ (b' &&& c) = mj2 a b' c := rfl
            rw [em] at p5
            obtain ⟨t1, ht1⟩ : ∃ t1, t1f t x ⟨a, b', c, d, e, f, gg, hh⟩ = t1 := ⟨_, rfl⟩
            obtain ⟨t2, ht2⟩ : ∃ t2, t2f ⟨a, b', c, d, e, f, gg, hh⟩ = t2 := ⟨_, rfl⟩
            have HS : Away (C .u32 (stps2 W s (t + 1)).list = [.int .u32 (((t1 : Int) + t2) % 4294967296), .int .u32 a, .int .u32 b', .int .u32 c, .int .u32 (((d : Int) + t1) % 4294967296), .int .u32 e, .int .u32 f, .int .u32 gg]) := ⟨by rw [HT.out, stp2, ht1, ht2]; simp [C, S8.list]⟩
            simp only [t1f] at ht1
            simp only [t2f] at ht2
            have lt1 : t1 < 4294967296 := by rw [← ht1]; exact mod_lt32 _
            generalize tri 6 11 25 e = ye at *
            generalize tri 2 13 22 a = ya at *
            generalize ch2 e f gg = cc at *
            generalize mj2 a b' c = mm at *
            generalize K2 t = kk at *
            obtain ⟨m1, e1, m2, e2, m3, e3, e4⟩ : ∃ m1 : Nat, IntKind.u32.wrap ((hh : Int) + (ye : Int)) = (m1 : Int) ∧ ∃ m2 : Nat, IntKind.u32.wrap ((m1 : Int) + (cc : Int)) = (m2 : Int) ∧ ∃ m3 : Nat, IntKind.u32.wrap ((m2 : Int) + (kk : Int)) = (m3 : Int) ∧ IntKind.u32.wrap ((m3 : Int) + (x : Int)) = (t1 : Int) := by
              refine ⟨(hh + ye) % 4294967296, by rw [IntKind.wrap_u32']; omega, ((hh + ye) % 4294967296 + cc) % 4294967296, by rw [IntKind.wrap_u32']; omega, (((hh + ye) % 4294967296 + cc) % 4294967296 + kk) % 4294967296, by rw [IntKind.wrap_u32']; omega, by rw [IntKind.wrap_u32']; omega⟩
            have e5 : IntKind.u32.wrap ((ya : Int) + (mm : Int)) = (t2 : Int) := by rw [IntKind.wrap_u32']; omega
            clear ht1 ht2 HT ec em
            have hV : Row wr gv 65 (C .u32 [a, b', c, d, e, f, gg, hh]) := hV
            obtain ⟨c0, c1, c2, c3, c4, c5, c6, c7⟩ := eight_cells (s := ⟨a, b', c, d, e, f, gg, hh⟩) hV
            go_wp2_with fail
            go_quiet (fail)
            clear c0 c1 c2 c3 c4 c5 c6 c7
            obtain ⟨w1, hwq, hV, hA, hB, hKr, hWs, hL⟩ : ∃ wq : World, wr.drewN nq = wq ∧ Row wq gv 65 (C .u32 [a, b', c, d, e, f, gg, hh]) ∧ Row wq w.heap.size 65 (C .u32 s.list) ∧ Row wq (w.heap.size + 1) 65 (C .u32 (Z 8)) ∧ Row wq gk 58 (C .u32 K2L) ∧ SlV wq (.slice (some ⟨g, 0, none⟩) k cap) (C .u32 W) ∧ Below w.heap.size w wq :=
              ⟨_, rfl, hV, hA, hB, hKr, hWs.keep fun _ _ _ => rfl, below_drewN hL nq⟩
            rw [hwq]
            have hct : w1.cell? ⟨g, t, none⟩ = some (.int .u32 (x : Int)) := by rw [← hwq]; exact hct
            have hkt : w1.cell? ⟨gk, t, none⟩ = some (.int .u32 (kk : Int)) := by rw [← hwq]; exact hkt
            clear hwq
            obtain ⟨c0, c1, c2, c3, c4, c5, c6, c7⟩ := eight_cells (s := ⟨a, b', c, d, e, f, gg, hh⟩) hV
            go_wp2_with fail
            go_quiet (first | (go_at_call_of 60 (Value.int IntKind.u64 6); exact Calls.quiet_of_same (te6 _)) | (go_at_call_of 60 (Value.int IntKind.u64 11); exact Calls.quiet_of_same (te11 _)) | (go_at_call_of 60 (Value.int IntKind.u64 25); exact Calls.quiet_of_same (te25 _)))
            clear c0 c1 c2 c3 c4 c5 c6 c7
            obtain ⟨w2, hwq, hV, hA, hB, hKr, hWs, hL⟩ : ∃ wq : World, w1.drewN nq = wq ∧ Row wq gv 65 (C .u32 [a, b', c, d, e, f, gg, hh]) ∧ Row wq w.heap.size 65 (C .u32 s.list) ∧ Row wq (w.heap.size + 1) 65 (C .u32 (Z 8)) ∧ Row wq gk 58 (C .u32 K2L) ∧ SlV wq (.slice (some ⟨g, 0, none⟩) k cap) (C .u32 W) ∧ Below w.heap.size w wq :=
              ⟨_, rfl, hV, hA, hB, hKr, hWs.keep fun _ _ _ => rfl, below_drewN hL nq⟩
            rw [hwq]
            have hct : w2.cell? ⟨g, t, none⟩ = some (.int .u32 (x : Int)) := by rw [← hwq]; exact hct
            have hkt : w2.cell? ⟨gk, t, none⟩ = some (.int .u32 (kk : Int)) := by rw [← hwq]; exact hkt
            clear hwq
            obtain ⟨c0, c1, c2, c3, c4, c5, c6, c7⟩ := eight_cells (s := ⟨a, b', c, d, e, f, gg, hh⟩) hV
            clear o1 o2 o3 o4 e1 e2 e3 e4 te6 te11 te25 ye1 ye2
            go_wp2_with fail
            go_quiet (first | (go_at_call_of 60 (Value.int IntKind.u64 2); exact Calls.quiet_of_same (ta2 _)) | (go_at_call_of 60 (Value.int IntKind.u64 13); exact Calls.quiet_of_same (ta13 _)) | (go_at_call_of 60 (Value.int IntKind.u64 22); exact Calls.quiet_of_same (ta22 _)))
            clear c0 c1 c2 c3 c4 c5 c6 c7
            obtain ⟨w3q, hwq, hV, hA, hB, hKr, hWs, hL⟩ : ∃ wq : World, w2.drewN nq = wq ∧ Row wq gv 65 (C .u32 [a, b', c, d, e, f, gg, hh]) ∧ Row wq w.heap.size 65 (C .u32 s.list) ∧ Row wq (w.heap.size + 1) 65 (C .u32 (Z 8)) ∧ Row wq gk 58 (C .u32 K2L) ∧ SlV wq (.slice (some ⟨g, 0, none⟩) k cap) (C .u32 W) ∧ Below w.heap.size w wq :=
              ⟨_, rfl, hV, hA, hB, hKr, hWs.keep fun _ _ _ => rfl, below_drewN hL nq⟩
            rw [hwq]
            have hct : w3q.cell? ⟨g, t, none⟩ = some (.int .u32 (x : Int)) := by rw [← hwq]; exact hct
            have hkt : w3q.cell? ⟨gk, t, none⟩ = some (.int .u32 (kk : Int)) := by rw [← hwq]; exact hkt
            clear hwq
            obtain ⟨c0, c1, c2, c3, c4, c5, c6, c7⟩ := eight_cells (s := ⟨a, b', c, d, e, f, gg, hh⟩) hV
            clear p1 p2 p3 p4 p5 e5 ta2 ta13 ta22 ya1 ya2
            have hlv := hV.lt
            have h8c : (C .u32 [a, b', c, d, e, f, gg, hh]).length = 8 := rfl
            go_wp2_with (refine wpList_store_R rfl 65 _ _ rfl gv _ rfl rfl hV i8 rfl rfl ?_; intro w7 hV7 hg7 hz7)
            go_roundw
            case rel => exact ⟨t + 1, by omega, by go_num, by rw [HS.out]; exact hV7, hA.grown hg7 (by simp <;> omega), hB.grown hg7 (by simp <;> omega), hKr.grown hg7 (by simp <;> omega), hWs.grown hg7 (fun b hb => by simp [Value.ownBlock] at hb; subst hb; simp; omega), below_grown hL hg7 (by omega) hlv⟩
            case measure => simp [intOf]; omega
          · have HT64 : Away (t = 64) := ⟨by omega⟩
            have hSe : stps2 W s t = stps2 W s 64 := by rw [HT64.out]
            rw [hSe] at hV q1 q2 q3 q4 q5 q6 q7 q8
            have hlti : ¬ (t : Int) < 64 := by omega
            have hSo : (stps2 W s 64).ok := ⟨q1, q2, q3, q4, q5, q6, q7, q8⟩
            generalize stps2 W s 64 = S at *
            clear HT hSe q1 q2 q3 q4 q5 q6 q7 q8
            go_wp2
            go_loopw [18] (fun i wx => ∃ j : Nat, j ≤ 8 ∧ i = .int .i64 j ∧ Row wx gv 65 (C .u32 (mixl s S j)) ∧ Row wx w.heap.size 65 (C .u32 s.list) ∧ Row wx (w.heap.size + 1) 65 (C .u32 (Z 8)) ∧ Below w.heap.size w wx) (fun i _ => 8 - (intOf i).toNat)
            case atStart => exact ⟨0, Nat.zero_le _, rfl, hV, hA, hB, hL⟩
            case round =>
              clear hV hA hB hL hWs hKr
              obtain ⟨j, hj, rfl, hV, hA, hB, hL⟩ := hrel
              by_cases hlt5 : j < 8
              · have cx := hV.cell j
                rw [C_get .u32 (by rw [mixl_length]; omega), mixl_get s S j hlt5] at cx
                have cy := hA.cell j
                rw [C_get .u32 (show j < s.list.length by simp [S8.list]; omega)] at cy
                have HX := Away.mk (mixl_succ s S j hlt5)
                have lx := list_lt hSo j
                have ly := list_lt hs j
                generalize S.list.getD j 0 = x at *
                generalize s.list.getD j 0 = y at *
                obtain ⟨z, hz⟩ : ∃ z, (y + x) % 4294967296 = z := ⟨_, rfl⟩
                have ez : IntKind.u32.wrap ((x : Int) + (y : Int)) = (z : Int) := by rw [IntKind.wrap_u32']; omega
                rw [hz] at HX
                have hj5 : (j : Int) < 8 := by omega
                have hfz := hV.frozen j
                have hlv := hV.lt
                clear hz
                go_upto_region 23 with fail
                refine wp_region_noPanic ?_
                refine wp_region_U (S := fun w' => w'.cell? ⟨gv, j, none⟩ = some (.int .u32 (x : Int)) ∧ w'.cell? ⟨w.heap.size, j, none⟩ = some (.int .u32 (y : Int))) 9 (by kernel_rfl) (⟨cx, cy⟩) (fun hHeld => ?_)
                refine wpAnyU_takeL (i := 0) (v := ?v0q) rfl (by kernel_rfl) (by kernel_rfl) (by kernel_rfl) (by kernel_rfl) (fun _ _ _ h => h) (by rfl) ?h0q (by assumption) ?_
                case h0q => intro w hSw; go_simp <;> with_reducible rfl
                simp only [Act.put, List.setIfInBounds_toArray, List.set_cons_zero, List.set_cons_succ]
                refine wpAnyU_takeL (i := 1) (v := ?v1q) rfl (by kernel_rfl) (by kernel_rfl) (by kernel_rfl) (by kernel_rfl) (fun _ _ _ h => h) (by rfl) ?h1q (by assumption) ?_
                case h1q => intro w hSw; go_simp <;> with_reducible rfl
                simp only [Act.put, List.setIfInBounds_toArray, List.set_cons_zero, List.set_cons_succ]
                refine wpAnyU_takeL (i := 2) (v := ?v2q) rfl (by kernel_rfl) (by kernel_rfl) (by kernel_rfl) (by kernel_rfl) (fun _ _ _ h => h) (by rfl) ?h2q (by assumption) ?_
                case h2q => intro w hSw; go_simp <;> with_reducible rfl
                simp only [Act.put, List.setIfInBounds_toArray, List.set_cons_zero, List.set_cons_succ]
                refine wpAnyU_takeL (i := 3) (v := ?v3q) rfl (by kernel_rfl) (by kernel_rfl) (by kernel_rfl) (by kernel_rfl) (fun _ _ _ h => h) (by rfl) ?h3q (by assumption) ?_
                case h3q => intro w hSw; go_simp <;> with_reducible rfl
                simp only [Act.put, List.setIfInBounds_toArray, List.set_cons_zero, List.set_cons_succ]
                refine wpAnyU_takeL (i := 4) (v := ?v4q) rfl (by kernel_rfl) (by kernel_rfl) (by kernel_rfl) (by kernel_rfl) (fun _ _ _ h => h) (by rfl) ?h4q (by assumption) ?_
                case h4q => intro w hSw; go_simp <;> with_reducible rfl
                simp only [Act.put, List.setIfInBounds_toArray, List.set_cons_zero, List.set_cons_succ]
                refine wpAnyU_takeL (i := 5) (v := ?v5q) rfl (by kernel_rfl) (by kernel_rfl) (by kernel_rfl) (by kernel_rfl) (fun _ _ _ h => h) (by rfl) ?h5q (by assumption) ?_
                case h5q => intro w hSw; go_simp <;> with_reducible rfl
                simp only [Act.put, List.setIfInBounds_toArray, List.set_cons_zero, List.set_cons_succ]
                refine wpAnyU_takeL (i := 6) (v := ?v6q) rfl (by kernel_rfl) (by kernel_rfl) (by kernel_rfl) (by kernel_rfl) (fun _ _ _ h => h) (by rfl) ?h6q (by assumption) ?_
                case h6q => intro w hSw; go_simp <;> with_reducible rfl
                simp only [Act.put, List.setIfInBounds_toArray, List.set_cons_zero, List.set_cons_succ]
                refine wpAnyU_takeL (i := 7) (v := ?v7q) rfl (by kernel_rfl) (by kernel_rfl) (by kernel_rfl) (by kernel_rfl) (fun _ _ _ h => h) (by rfl) ?h7q (by assumption) ?_
                case h7q => intro w hSw; go_simp <;> with_reducible rfl
                simp only [Act.put, List.setIfInBounds_toArray, List.set_cons_zero, List.set_cons_succ]
                refine wpAnyU_takeL (i := 8) (v := ?v8q) rfl (by kernel_rfl) (by kernel_rfl) (by kernel_rfl) (by kernel_rfl) (fun _ _ _ h => h) (by rfl) ?h8q (by assumption) ?_
                case h8q => intro w hSw; go_simp <;> with_reducible rfl
                simp only [Act.put, List.setIfInBounds_toArray, List.set_cons_zero, List.set_cons_succ]
                refine wpAnyU_oneL (i := 9) (by kernel_rfl) rfl (by rfl) (fun K hK => ?_)
                go_simp
                refine hK.out _ _ (fun h => absurd rfl h) (fun hHeld => ?_)
                clear hK K
                refine wpAnyU_done (by kernel_rfl) ?_ _
                refine NoPanic.normal ?_
                have hV7 : Row (wr.setCell ⟨gv, j, none⟩ (.int .u32 (z : Int))) gv 65 (C .u32 (mixl s S (j + 1))) := by rw [← HX.out, C_set]; exact hV.set j _
                have hA7 := hA.other (i := j) (.int .u32 (z : Int)) (show w.heap.size ≠ gv by omega)
                have hB7 := hB.other (i := j) (.int .u32 (z : Int)) (show w.heap.size + 1 ≠ gv by omega)
                have hL7 := hL.setCell (p := ⟨gv, j, none⟩) (by simp; omega) (.int .u32 (z : Int))
                have G1 := Away.mk hV7
                have G2 := Away.mk hA7
                have G3 := Away.mk hB7
                have G4 := Away.mk hL7
                clear hV7 hA7 hB7 hL7 hV hA hB hL cx cy hHeld hfz lx ly ez

                go_wp2
                go_roundw
                case rel => exact ⟨j + 1, by omega, by go_num, G1.out.drew, G2.out.drew, G3.out.drew, G4.out.drew⟩
                case measure => simp [intOf]; omega
              · have HJ5 : Away (j = 8) := ⟨by omega⟩
                rw [HJ5.out, mixl_all] at hV
                have hj5 : ¬ (j : Int) < 8 := by omega
                have hBlt2 := hB.lt
                obtain ⟨T, hT⟩ : ∃ T, add2 s S = T := ⟨_, rfl⟩
                rw [hT] at hV HBk
                have i5T : (Tryd.prog.info? 65).map (·.size) = some (C .u32 T.list).toArray.size := i8
                have i5T' : (Tryd.prog.info? 65).map (·.size) = some (C .u32 T.list).length := i8
                have h5T : (C .u32 (Z 8)).length = (C .u32 T.list).length := rfl
                clear hT
                go_wp2_with (first | refine wpList_load_row rfl 65 _ rfl _ rfl _ _ _ _ hV Tryd.underlying65 rfl i5T ?_ | (refine wpList_store_R rfl 65 _ _ rfl _ (C .u32 T.list) rfl rfl hB i5T' h5T (C_allL _ _) ?_; intro w8 hB8 hg8 hz8))
                exact result_row Tryd.results43 rfl hB8 Tryd.underlying65 rfl i5T' rfl ⟨by rw [HBk.out], below_grown hL hg8 (by omega) hBlt2⟩
end Go.Proofs.YtmbaenodibfedaaDoor.S2
