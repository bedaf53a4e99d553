/-
  The contract of the document's Block of the first hash, over this seat's translation. Conditions: 64 bytes.
-/
import Derived.Test.YtmbaenodibfedaaDoorRefP
import Derived.Test.YtmbaenodibfedaaDoorKit7
namespace Go.Proofs.YtmbaenodibfedaaDoor.S1
open Go.RowKit
set_option linter.unusedVariables false
set_option maxRecDepth 10000

/-- Four bytes put together, as the operations write it. -/
theorem or4 (x0 x1 x2 x3 : Nat) (h0 : x0 < 256) (h1 : x1 < 256) (h2 : x2 < 256) (h3 : x3 < 256) :
    ∃ p0 p1 p2 z1 z2 z3 : Nat, z3 = x0 * 16777216 + x1 * 65536 + x2 * 256 + x3 ∧ IntKind.u32.wrap ((x0 : Int) * 16777216) = (p0 : Int) ∧ IntKind.u32.wrap ((x1 : Int) * 65536) = (p1 : Int) ∧ IntKind.u32.wrap ((x2 : Int) * 256) = (p2 : Int) ∧
      bits .or .u32 (p0 : Int) (p1 : Int) = (z1 : Int) ∧ bits .or .u32 (z1 : Int) (p2 : Int) = (z2 : Int) ∧ bits .or .u32 (z2 : Int) (x3 : Int) = (z3 : Int) := by
  refine ⟨x0 * 16777216, x1 * 65536, x2 * 256, x0 * 16777216 + x1 * 65536, x0 * 16777216 + x1 * 65536 + x2 * 256, _, rfl, ?_, ?_, ?_, ?_, ?_, ?_⟩
  · rw [IntKind.wrap_u32']; omega
  · rw [IntKind.wrap_u32']; omega
  · rw [IntKind.wrap_u32']; omega
  · have := or32 24 x0 ((x1 : Int) * 65536) (by omega) (by omega) (by omega) (by omega)
    rw [show (2 : Int) ^ 24 = 16777216 from rfl] at this
    rw [show ((x0 * 16777216 : Nat) : Int) = (x0 : Int) * 16777216 by omega, show ((x1 * 65536 : Nat) : Int) = (x1 : Int) * 65536 by omega, this]; omega
  · have := or32 16 ((x0 : Int) * 256 + x1) ((x2 : Int) * 256) (by omega) (by omega) (by omega) (by omega)
    rw [show (2 : Int) ^ 16 = 65536 from rfl] at this
    rw [show ((x0 * 16777216 + x1 * 65536 : Nat) : Int) = ((x0 : Int) * 256 + x1) * 65536 by omega, show ((x2 * 256 : Nat) : Int) = (x2 : Int) * 256 by omega, this]; omega
  · have := or32 8 ((x0 : Int) * 65536 + x1 * 256 + x2) (x3 : Int) (by omega) (by omega) (by omega) (by omega)
    rw [show (2 : Int) ^ 8 = 256 from rfl] at this
    rw [show ((x0 * 16777216 + x1 * 65536 + x2 * 256 : Nat) : Int) = ((x0 : Int) * 65536 + x1 * 256 + x2) * 256 by omega, this]; omega
theorem wrap8 (x : Nat) (h : x < 256) : IntKind.u32.wrap (x : Int) = (x : Int) := by rw [IntKind.wrap_u32']; omega
/-- The numbers, the first k of them added. -/
def mixl (s S : S5) (k : Nat) : List Nat := (add1 s S).list.take k ++ S.list.drop k
theorem mixl_length (s S : S5) (k : Nat) : (mixl s S k).length = 5 := by simp [mixl, S5.list]; omega
theorem mixl_all (s S : S5) : mixl s S 5 = (add1 s S).list := rfl
theorem mixl_get (s S : S5) (k : Nat) (h : k < 5) : (mixl s S k).getD k 0 = S.list.getD k 0 := by
  have h' : k = 0 ∨ k = 1 ∨ k = 2 ∨ k = 3 ∨ k = 4 := by omega
  rcases h' with rfl | rfl | rfl | rfl | rfl <;> rfl
theorem mixl_succ (s S : S5) (k : Nat) (h : k < 5) : (mixl s S k).set k ((s.list.getD k 0 + S.list.getD k 0) % 4294967296) = mixl s S (k + 1) := by
  have h' : k = 0 ∨ k = 1 ∨ k = 2 ∨ k = 3 ∨ k = 4 := by omega
  rcases h' with rfl | rfl | rfl | rfl | rfl <;> rfl
theorem sch1_first (b : List Nat) (t : Nat) (h : t < 16) : sch1 b (t + 1) = sch1 b t ++ [wd b t] := by rw [sch1, if_pos h]
theorem sch1_next (b : List Nat) (t : Nat) (h : 16 ≤ t) : sch1 b (t + 1) = sch1 b t ++ [nxt1 (sch1 b t) t] := by rw [sch1, if_neg (by omega)]

set_option maxRecDepth 10000 in
set_option maxHeartbeats 4000000 in
theorem refblock_any (s : S5) (hs : s.ok) (v : Value) (b : List Nat) (w : World) (hv : SlV w v (C .u8 b)) (hb : Lo 256 b) (hl : b.length = 64) :
    Calls Tryd.prog 41 #[.agg (C .u32 s.list).toArray, v] w fun e w' => e = .returned (.agg (C .u32 (blk1 s b).list).toArray) ∧ Below w.heap.size w w' := by
  obtain ⟨sa, sc, rfl, h1, h2⟩ := hv.shp hl
  obtain ⟨bb, off, rfl, hbl, hcx⟩ := hv.cells (by rw [C_length]; omega)
  have hA := ((Row.new w 59 (C .u32 s.list)).alloc (.cells (C .u32 (Z 5)).toArray 59)).alloc (.cells #[] 58)
  have hB := (Row.newAt (w.alloc (.cells (C .u32 s.list).toArray 59)) (w.heap.size + 1) (by simp) 59 (C .u32 (Z 5))).alloc (.cells #[] 58)
  have hO := own_empty_at ((w.alloc (.cells (C .u32 s.list).toArray 59)).alloc (.cells (C .u32 (Z 5)).toArray 59)) (w.heap.size + 1 + 1) (w.heap.size + 1 + 1) 58 (by simp) (by simp)
  have hL0 := Below.more (Below.refl w.heap.size w) (Nat.le_refl _) (.cells (C .u32 s.list).toArray 59)
  have hL1 := Below.more hL0.1 hL0.2 (.cells (C .u32 (Z 5)).toArray 59)
  have hL := (Below.more hL1.1 hL1.2 (.cells #[] 58)).1
  clear hL0 hL1
  go_enter Tryd.func41, Tryd.ntmps41
  go_wp2_with (refine wpList_alloc_row rfl 59 rfl _ z5 ?_)
  generalize ((w.alloc (.cells (C .u32 s.list).toArray 59)).alloc (.cells (C .u32 (Z 5)).toArray 59)).alloc (.cells #[] 58) = w3 at *
  go_loopw [5, 6] (fun v i wr => ∃ k : Nat, k ≤ 80 ∧ i = .int .i64 k ∧ wr.ownsRow (w.heap.size + 1 + 1) 58 1 v k (C .u32 (sch1 b k)) ∧ Row wr w.heap.size 59 (C .u32 s.list) ∧ Row wr (w.heap.size + 1) 59 (C .u32 (Z 5)) ∧ Below w.heap.size w wr) (fun _ i _ => 80 - (intOf i).toNat)
  case atStart => exact ⟨0, Nat.zero_le _, rfl, hO, hA, hB, hL⟩
  case round =>
    clear hO hA hB hL
    obtain ⟨k, hk, rfl, hO, hA, hB, hL⟩ := hrel
    by_cases h16 : k < 16
    · have hc : ∀ i, i < 64 → wr.cell? ⟨bb, off + i, none⟩ = some (.int .u8 (b.getD i 0 : Nat)) := fun i hi => by
        have h := hcx i _ (C_get .u8 (show i < b.length by omega))
        exact (hL.cell (p := ⟨bb, off + i, none⟩) hbl).trans h
      obtain ⟨n0, hn0⟩ : ∃ n, 4 * k = n := ⟨_, rfl⟩
      have c0 := hc n0 (by omega)
      have c1 := hc (n0 + 1) (by omega)
      have c2 := hc (n0 + 2) (by omega)
      have c3 := hc (n0 + 3) (by omega)
      have x0 := hb.getD (by decide) n0
      have x1 := hb.getD (by decide) (n0 + 1)
      have x2 := hb.getD (by decide) (n0 + 2)
      have x3 := hb.getD (by decide) (n0 + 3)
      have HW : Away (wd b k = b.getD n0 0 * 16777216 + b.getD (n0 + 1) 0 * 65536 + b.getD (n0 + 2) 0 * 256 + b.getD (n0 + 3) 0) := ⟨by rw [← hn0]; rfl⟩
      generalize b.getD n0 0 = y0 at *
      generalize b.getD (n0 + 1) 0 = y1 at *
      generalize b.getD (n0 + 2) 0 = y2 at *
      generalize b.getD (n0 + 3) 0 = y3 at *
      obtain ⟨p0, p1, p2, z1, z2, z3, hz, r0, r1, r2, o1, o2, o3⟩ := or4 y0 y1 y2 y3 x0 x1 x2 x3
      have w0 := wrap8 y0 x0
      have w1 := wrap8 y1 x1
      have w2 := wrap8 y2 x2
      have w3' := wrap8 y3 x3
      rw [← hz] at HW
      obtain ⟨n1, hn1⟩ : ∃ n, n0 + 1 = n := ⟨_, rfl⟩
      obtain ⟨n2, hn2⟩ : ∃ n, n0 + 2 = n := ⟨_, rfl⟩
      obtain ⟨n3, hn3⟩ : ∃ n, n0 + 3 = n := ⟨_, rfl⟩
      rw [hn1] at c1; rw [hn2] at c2; rw [hn3] at c3
      have d0 : IntKind.i64.wrap (4 * (k : Int)) = (n0 : Int) := by rw [IntWalk.i64_in _ ⟨by omega, by omega⟩]; omega
      have d1 : IntKind.i64.wrap ((n0 : Int) + 1) = (n1 : Int) := by rw [IntWalk.i64_in _ ⟨by omega, by omega⟩]; omega
      have d2 : IntKind.i64.wrap ((n0 : Int) + 2) = (n2 : Int) := by rw [IntWalk.i64_in _ ⟨by omega, by omega⟩]; omega
      have d3 : IntKind.i64.wrap ((n0 : Int) + 3) = (n3 : Int) := by rw [IntWalk.i64_in _ ⟨by omega, by omega⟩]; omega
      have b0 : (n0 : Int) < 64 := by omega
      have b1 : (n1 : Int) < 64 := by omega
      have b2 : (n2 : Int) < 64 := by omega
      have b3 : (n3 : Int) < 64 := by omega
      have h16i : (k : Int) < 16 := by omega
      have h80i : (k : Int) < 80 := by omega
      clear hn0 hn1 hn2 hn3 hz hc
      have HO := Away.mk hO
      have HL := Away.mk hL
      have HA := Away.mk hA
      have HB := Away.mk hB
      clear hO hL hA hB
      go_wp2
      have hsz := HL.out.size
      have hcw : ∀ (n y : Nat), wr.cell? ⟨bb, off + n, none⟩ = some (.int .u8 (y : Int)) → w.cell? ⟨bb, off + n, none⟩ = some (.int .u8 (y : Int)) := fun n y h => (HL.out.cell (p := ⟨bb, off + n, none⟩) hbl).symm.trans h
      have HW' := Away.mk hcw
      clear hcw
      have hone : (wr.alloc (.cells #[.int .u32 (z3 : Int)] 58)).drew.cell? ⟨wr.heap.size, 0, none⟩ = some (.int .u32 (z3 : Int)) := by simp [go_sem]
      have q1 : k + 1 ≤ maxLen := by unfold maxLen; omega
      have q2 : (k + 1) * 4 ≤ 140737488355328 := by omega
      have q3 : w.heap.size + 1 + 1 ≤ ((wr.alloc (.cells #[.int .u32 (z3 : Int)] 58)).drew).heap.size := by have := HB.out.lt; simp; omega
      have HO1 : Away (((wr.alloc (.cells #[.int .u32 (z3 : Int)] 58)).drew).ownsRow (w.heap.size + 1 + 1) 58 1 u5 k (C .u32 (sch1 b k))) := ⟨World.ownsRow.drew (HO.out.alloc _)⟩
      have hnA : ∀ g, g < w.heap.size + 1 + 1 → some g ≠ u5.ownBlock := fun g hg he => by have := (HO.out.lt g he.symm).1; omega
      have HRA : Away (∀ w4, ((wr.alloc (.cells #[.int .u32 (z3 : Int)] 58)).drew).grownBy w4 u5.ownBlock → Row w4 w.heap.size 59 (C .u32 s.list) ∧ Row w4 (w.heap.size + 1) 59 (C .u32 (Z 5))) := ⟨fun w4 hg => ⟨((HA.out.alloc _).drew).grown hg (hnA _ (by omega)), ((HB.out.alloc _).drew).grown hg (hnA _ (by omega))⟩⟩
      clear hnA
      have HG : Away (∀ w4, ((wr.alloc (.cells #[.int .u32 (z3 : Int)] 58)).drew).grownBy w4 u5.ownBlock → Below w.heap.size w w4) := ⟨fun w4 hg => ((HL.out.alloc hsz _).drew).grown hg (by simp; omega) (fun k hk => by have := (HO.out.lt k hk).1; omega)⟩
      go_region_held3 (fun w' => w'.cell? ⟨bb, off + n0, none⟩ = some (.int .u8 (y0 : Int)) ∧ w'.cell? ⟨bb, off + n1, none⟩ = some (.int .u8 (y1 : Int)) ∧ w'.cell? ⟨bb, off + n2, none⟩ = some (.int .u8 (y2 : Int)) ∧ w'.cell? ⟨bb, off + n3, none⟩ = some (.int .u8 (y3 : Int)))
        (first | exact ⟨c0, c1, c2, c3⟩ | exact ⟨cell_alloc c0 _, cell_alloc c1 _, cell_alloc c2 _, cell_alloc c3 _⟩ | exact ⟨f0, f1, f2, f3⟩)
        ((refine step_append_one (by rfl) (.tmp 20) (.tmp 54) 95 (by rfl) (w.heap.size + 1 + 1) 58 _ 4 Tryd.underlying95 inf32 rfl _ k _ (by rfl) HO1.out _ _ (.int .u32 (z3 : Int)) (by rfl) hone rfl q1 q2 q3 ?_; intro v4 w4 ho4 hg4 hk4; have hb4 := HG.out _ hg4; have f0 := (hb4.cell (p := ⟨bb, off + n0, none⟩) hbl).trans (HW'.out _ _ c0); have f1 := (hb4.cell (p := ⟨bb, off + n1, none⟩) hbl).trans (HW'.out _ _ c1); have f2 := (hb4.cell (p := ⟨bb, off + n2, none⟩) hbl).trans (HW'.out _ _ c2); have f3 := (hb4.cell (p := ⟨bb, off + n3, none⟩) hbl).trans (HW'.out _ _ c3)))
      obtain ⟨hA4, hB4⟩ := HRA.out _ hg4
      have ho4' : w4.ownsRow (w.heap.size + 1 + 1) 58 1 v4 (k + 1) (C .u32 (sch1 b (k + 1))) := by
        rw [sch1_first b k h16, ← C_snoc, HW.out]; exact ho4
      clear hk4 q1 q2 q3 HRA HG HO1 HO HL HA HB hone HW' hg4 ho4 f0 f1 f2 f3 c0 c1 c2 c3 r0 r1 r2 o1 o2 o3 w0 w1 w2 w3' d0 d1 d2 d3
      have G1 := Away.mk ho4'
      have G2 := Away.mk hA4
      have G3 := Away.mk hB4
      have G4 := Away.mk hb4
      clear ho4' hA4 hB4 hb4 hcx hv x0 x1 x2 x3 b0 b1 b2 b3 hsz
      go_wp2
      go_roundw
      case rel => exact ⟨k + 1, by omega, by go_num, G1.out, G2.out, G3.out, G4.out⟩
      case measure => simp [intOf]; omega
    · by_cases h80 : k < 80
      · have hlS := sch1_length b k
        obtain ⟨g, cap, rfl, hbg, hgl, hnc, hcm⟩ := own_shape hO (by omega)
        have hg : ∀ j, 1 ≤ j → j ≤ 16 → wr.cell? ⟨g, k - j, none⟩ = some (.int .u32 ((sch1 b k).getD (k - j) 0 : Nat)) := by
          intro j h1 h16
          rw [hO.cellAt (k - j) (by omega), C_get .u32 (by omega)]
        have hgx : ∀ j, 1 ≤ j → j ≤ 16 → (C .u32 (sch1 b k))[k - j]? = some (.int .u32 ((sch1 b k).getD (k - j) 0 : Nat)) := fun j h1 h16 => C_get .u32 (by omega)
        have c3 := hg 3 (by decide) (by decide)
        have c8 := hg 8 (by decide) (by decide)
        have c14 := hg 14 (by decide) (by decide)
        have c16 := hg 16 (by decide) (by decide)
        have E3 := Away.mk (hgx 3 (by decide) (by decide))
        have E8 := Away.mk (hgx 8 (by decide) (by decide))
        have E14 := Away.mk (hgx 14 (by decide) (by decide))
        have E16 := Away.mk (hgx 16 (by decide) (by decide))
        have hlo := (sch1_lo hb k).getD (by decide)
        have l3 := hlo (k - 3)
        have l8 := hlo (k - 8)
        have l14 := hlo (k - 14)
        have l16 := hlo (k - 16)
        have HN : Away (nxt1 (sch1 b k) k = rot 1 ((sch1 b k).getD (k - 3) 0 ^^^ (sch1 b k).getD (k - 8) 0 ^^^ (sch1 b k).getD (k - 14) 0 ^^^ (sch1 b k).getD (k - 16) 0)) := ⟨rfl⟩
        clear hg hgx hlo
        generalize (sch1 b k).getD (k - 3) 0 = x3 at *
        generalize (sch1 b k).getD (k - 8) 0 = x8 at *
        generalize (sch1 b k).getD (k - 14) 0 = x14 at *
        generalize (sch1 b k).getD (k - 16) 0 = x16 at *
        have o1 := u32_xor_nat x3 x8 l3 l8
        have o2 := u32_xor_nat (x3 ^^^ x8) x14 (xor_lt32 l3 l8) l14
        have o3 := u32_xor_nat (x3 ^^^ x8 ^^^ x14) x16 (xor_lt32 (xor_lt32 l3 l8) l14) l16
        have lz := xor_lt32 (xor_lt32 (xor_lt32 l3 l8) l14) l16
        generalize x3 ^^^ x8 ^^^ x14 ^^^ x16 = z at *
        obtain ⟨n3, e3, b3, d3⟩ : ∃ n : Nat, k - 3 = n ∧ (n : Int) < (k : Int) ∧ IntKind.i64.wrap ((k : Int) - 3) = (n : Int) := ⟨k - 3, rfl, by omega, by rw [IntWalk.i64_in _ ⟨by omega, by omega⟩]; omega⟩
        obtain ⟨n8, e8, b8, d8⟩ : ∃ n : Nat, k - 8 = n ∧ (n : Int) < (k : Int) ∧ IntKind.i64.wrap ((k : Int) - 8) = (n : Int) := ⟨k - 8, rfl, by omega, by rw [IntWalk.i64_in _ ⟨by omega, by omega⟩]; omega⟩
        obtain ⟨n14, e14, b14, d14⟩ : ∃ n : Nat, k - 14 = n ∧ (n : Int) < (k : Int) ∧ IntKind.i64.wrap ((k : Int) - 14) = (n : Int) := ⟨k - 14, rfl, by omega, by rw [IntWalk.i64_in _ ⟨by omega, by omega⟩]; omega⟩
        obtain ⟨n16, e16, b16, d16⟩ : ∃ n : Nat, k - 16 = n ∧ (n : Int) < (k : Int) ∧ IntKind.i64.wrap ((k : Int) - 16) = (n : Int) := ⟨k - 16, rfl, by omega, by rw [IntWalk.i64_in _ ⟨by omega, by omega⟩]; omega⟩
        rw [e3] at c3 E3; rw [e8] at c8 E8; rw [e14] at c14 E14; rw [e16] at c16 E16
        clear e3 e8 e14 e16 l3 l8 l14 l16
        have h80i : (k : Int) < 80 := by omega
        have h16i : ¬ (k : Int) < 16 := by omega
        have HO := Away.mk hO
        have HL := Away.mk hL
        have HA := Away.mk hA
        have HB := Away.mk hB
        have hone : (wr.alloc (.cells #[.int .u32 (rot 1 z : Nat)] 58)).drew.cell? ⟨wr.heap.size, 0, none⟩ = some (.int .u32 (rot 1 z : Nat)) := by simp [go_sem]
        have q1 : k + 1 ≤ maxLen := by unfold maxLen; omega
        have q2 : (k + 1) * 4 ≤ 140737488355328 := by omega
        have q3 : w.heap.size + 1 + 1 ≤ ((wr.alloc (.cells #[.int .u32 (rot 1 z : Nat)] 58)).drew).heap.size := by have := HB.out.lt; simp; omega
        have HO1 : Away (((wr.alloc (.cells #[.int .u32 (rot 1 z : Nat)] 58)).drew).ownsRow (w.heap.size + 1 + 1) 58 1 (.slice (some ⟨g, 0, none⟩) k cap) k (C .u32 (sch1 b k))) := ⟨World.ownsRow.drew (HO.out.alloc _)⟩
        have HRA : Away (∀ w4, ((wr.alloc (.cells #[.int .u32 (rot 1 z : Nat)] 58)).drew).grownBy w4 (some g) → Row w4 w.heap.size 59 (C .u32 s.list) ∧ Row w4 (w.heap.size + 1) 59 (C .u32 (Z 5)) ∧ Below w.heap.size w w4) := ⟨fun w4 hg => ⟨((HA.out.alloc _).drew).grown hg (by simp; omega), ((HB.out.alloc _).drew).grown hg (by simp; omega), ((HL.out.alloc HL.out.size _).drew).grown hg (by have := HL.out.size; simp; omega) (fun k hk => by simp only [Option.some.injEq] at hk; omega)⟩⟩
        clear hO hL hA hB
        go_wp2
        go_region_held3 (fun w' => w'.cell? ⟨g, n3, none⟩ = some (.int .u32 (x3 : Int)) ∧ w'.cell? ⟨g, n8, none⟩ = some (.int .u32 (x8 : Int)) ∧ w'.cell? ⟨g, n14, none⟩ = some (.int .u32 (x14 : Int)) ∧ w'.cell? ⟨g, n16, none⟩ = some (.int .u32 (x16 : Int)))
          (first | exact ⟨c3, c8, c14, c16⟩ | exact ⟨cell_alloc c3 _, cell_alloc c8 _, cell_alloc c14 _, cell_alloc c16 _⟩ | exact ⟨f0, f1, f2, f3⟩)
          (first | (go_at_call 58; refine (turned_any z 1 lz (by decide) _).mono ?_; rintro e w' ⟨rfl, rfl⟩) | (refine step_append_one (by rfl) (.tmp 56) (.tmp 81) 95 (by rfl) (w.heap.size + 1 + 1) 58 _ 4 Tryd.underlying95 inf32 rfl _ k _ (by rfl) HO1.out _ _ (.int .u32 (rot 1 z : Nat)) (by rfl) hone rfl q1 q2 q3 ?_; intro v4 w4 ho4 hg4 hk4; have f0 := hk4 g cap rfl _ _ E3.out; have f1 := hk4 g cap rfl _ _ E8.out; have f2 := hk4 g cap rfl _ _ E14.out; have f3 := hk4 g cap rfl _ _ E16.out))
        obtain ⟨hA4, hB4, hb4⟩ := HRA.out _ hg4
        have ho4' : w4.ownsRow (w.heap.size + 1 + 1) 58 1 v4 (k + 1) (C .u32 (sch1 b (k + 1))) := by
          rw [sch1_next b k (by omega), ← C_snoc, HN.out]; exact ho4
        have G1 := Away.mk ho4'
        have G2 := Away.mk hA4
        have G3 := Away.mk hB4
        have G4 := Away.mk hb4
        clear ho4' hA4 hB4 hb4 hcx hv hk4 q1 q2 q3 HRA HO1 HO HL HA HB hone hg4 ho4 f0 f1 f2 f3 c3 c8 c14 c16 E3 E8 E14 E16 o1 o2 o3 d3 d8 d14 d16 b3 b8 b14 b16
        go_wp2
        go_roundw
        case rel => exact ⟨k + 1, by omega, by go_num, G1.out, G2.out, G3.out, G4.out⟩
        case measure => simp [intOf]; omega
      · have HK80 : Away (k = 80) := ⟨by omega⟩
        have hlW : (sch1 b k).length = k := sch1_length b k
        have hWlo := sch1_lo hb k
        have hkE : sch1 b k = sch1 b 80 := by rw [HK80.out]
        obtain ⟨g, cap, rfl, hbg, hgl, hnc, hcm⟩ := own_shape hO (by omega)
        have hWs : SlV wr (.slice (some ⟨g, 0, none⟩) k cap) (C .u32 (sch1 b 80)) := by rw [← hkE]; exact SlV.ofOwn hO
        rw [hkE] at hlW hWlo
        have HBk : Away (blk1 s b = add1 s (stps1 (sch1 b 80) s 80)) := ⟨rfl⟩
        generalize sch1 b 80 = W at *
        have h80i : ¬ (k : Int) < 80 := by omega
        have i5s : (Tryd.prog.info? 59).map (·.size) = some (C .u32 s.list).toArray.size := i5
        have i5l : (Tryd.prog.info? 59).map (·.size) = some (C .u32 s.list).length := i5
        have h55 : (C .u32 (Z 5)).length = (C .u32 s.list).length := rfl
        have hN1 := Row.new wr 59 (C .u32 (Z 5))
        have hL1 := Below.more hL hL.size (.cells (C .u32 (Z 5)).toArray 59)
        have hA1 := hA.alloc (.cells (C .u32 (Z 5)).toArray 59)
        have hB1 := hB.alloc (.cells (C .u32 (Z 5)).toArray 59)
        have hW1 := hWs.below ((Below.refl wr.heap.size wr).alloc (Nat.le_refl _) (.cells (C .u32 (Z 5)).toArray 59))
        clear hO hkE hcx hv
        go_upto_region 9 with (first | refine wpList_load_row rfl 59 _ rfl _ rfl _ _ _ _ hA Tryd.underlying59 rfl i5s ?_ | refine wpList_alloc_row rfl 59 rfl _ z5 ?_ | (refine wpList_store_R rfl 59 _ _ rfl _ (C .u32 s.list) rfl rfl hN1 i5l h55 (C_allL _ _) ?_; intro w5 hV5 hg5 hz5))
        have hAlt := hA.lt
        have hBlt := hB.lt
        have hA5 := hA1.grown hg5 (by simp; omega)
        have hB5 := hB1.grown hg5 (by simp; omega)
        have hL5 := below_grown hL1.1 hg5 hL.size hN1.lt
        have hW5 := hW1.grown hg5 (fun b hb => by simp [Value.ownBlock] at hb; subst hb; simp; omega)
        obtain ⟨gv, hgv⟩ : ∃ gv, wr.heap.size = gv := ⟨_, rfl⟩
        simp only [Act.put, List.setIfInBounds_toArray, List.set_cons_zero, List.set_cons_succ]
        rw [hgv] at hV5 hAlt hBlt hgl ⊢
        clear hN1 hL1 hA1 hB1 hW1 hg5 hz5 hA hB hL hWs hgv
        go_wp2
        go_loopw [8] (fun i wx => ∃ t : Nat, t ≤ 80 ∧ i = .int .i64 t ∧ Row wx gv 59 (C .u32 (stps1 W s t).list) ∧ Row wx w.heap.size 59 (C .u32 s.list) ∧ Row wx (w.heap.size + 1) 59 (C .u32 (Z 5)) ∧ SlV wx (.slice (some ⟨g, 0, none⟩) k cap) (C .u32 W) ∧ Below w.heap.size w wx) (fun i _ => 80 - (intOf i).toNat)
        case atStart => exact ⟨0, Nat.zero_le _, rfl, hV5, hA5, hB5, hW5, hL5⟩
        case round =>
          clear hV5 hA5 hB5 hW5 hL5
          obtain ⟨t, ht, rfl, hV, hA, hB, hWs, hL⟩ := hrel
          have HT : Away (stps1 W s (t + 1) = stp1 t (W.getD t 0) (stps1 W s t)) := ⟨rfl⟩
          obtain ⟨q1, q2, q3, q4, q5⟩ := stps1_ok (ws := W) hs t
          by_cases hlt : t < 80
          · have htk : (t : Int) < (k : Int) := by have := HK80.out; omega
            have hct := hWs.cellAt (C_get .u32 (show t < W.length by omega))
            rw [Nat.zero_add] at hct
            have hx := hWlo.getD (by decide) t
            obtain ⟨c0, c1, c2, c3, c4⟩ := five_cells hV
            generalize W.getD t 0 = x at *
            generalize stps1 W s t = S at *
            obtain ⟨a, b', c, d, e⟩ := S
            simp only at *
            have hlti : (t : Int) < 80 := by omega
            go_wp2_with fail
            refine (step_any t b' c d q2 q3 q4 hlt _).mono ?_
            rintro _ w' ⟨rfl, rfl⟩
            have hf1 := F1_lt (t := t) q2 q3 q4
            have hk1 := K1_lt t
            have hr1 := rot_lt q1 5
            obtain ⟨m, hm⟩ : ∃ m, (rot 5 a + F1 t b' c d + e + K1 t + x) % 4294967296 = m := ⟨_, rfl⟩
            have HM := Away.mk hm
            obtain ⟨m1, e1, m2, e2, m3, e3, e4⟩ : ∃ m1 : Nat, IntKind.u32.wrap ((rot 5 a : Nat) + (F1 t b' c d : Nat)) = (m1 : Int) ∧ ∃ m2 : Nat, IntKind.u32.wrap ((m1 : Int) + (e : Int)) = (m2 : Int) ∧ ∃ m3 : Nat, IntKind.u32.wrap ((m2 : Int) + (K1 t : Nat)) = (m3 : Int) ∧ IntKind.u32.wrap ((m3 : Int) + (x : Int)) = (m : Int) := by
              refine ⟨(rot 5 a + F1 t b' c d) % 4294967296, by rw [IntKind.wrap_u32']; omega, ((rot 5 a + F1 t b' c d) % 4294967296 + e) % 4294967296, by rw [IntKind.wrap_u32']; omega, (((rot 5 a + F1 t b' c d) % 4294967296 + e) % 4294967296 + K1 t) % 4294967296, by rw [IntKind.wrap_u32']; omega, by rw [IntKind.wrap_u32']; omega⟩
            have HT2 : Away (stps1 W s (t + 1) = ⟨m, a, rot 30 b', c, d⟩) := ⟨by rw [HT.out]; simp only [stp1]; rw [hm]⟩
            clear hm HT
            generalize F1 t b' c d = f at *
            generalize K1 t = kk at *
            go_wp2
            go_region_held3 (fun w' => w'.cell? ⟨gv, 0, none⟩ = some (.int .u32 (a : Int)) ∧ w'.cell? ⟨gv, 4, none⟩ = some (.int .u32 (e : Int)) ∧ w'.cell? ⟨g, t, none⟩ = some (.int .u32 (x : Int)))
              (exact ⟨c0, c4, hct⟩)
              (first | (go_at_call 58; refine (turned_any a 5 q1 (by decide) _).mono ?_; rintro e w' ⟨rfl, rfl⟩))
            go_upto_region 14 with fail
            have hVd := hV.drew.drew
            have hlv := hV.lt
            clear e1 e2 e3 e4 c4 hct
            refine wp_region_noPanic ?_
            refine wp_region_U (S := fun w' => w'.cell? ⟨gv, 0, none⟩ = some (.int .u32 (a : Int)) ∧ w'.cell? ⟨gv, 1, none⟩ = some (.int .u32 (b' : Int)) ∧ w'.cell? ⟨gv, 2, none⟩ = some (.int .u32 (c : Int)) ∧ w'.cell? ⟨gv, 3, none⟩ = some (.int .u32 (d : Int))) 11 (by kernel_rfl) (⟨c0, c1, c2, c3⟩) (fun hHeld => ?_)
            refine wpAnyU_takeL (i := 0) (v := ?v0) rfl (by kernel_rfl) (by kernel_rfl) (by kernel_rfl) (by kernel_rfl) (fun _ _ _ h => h) (by rfl) ?h0 (by assumption) ?_
            case h0 => intro w hSw; go_simp <;> with_reducible rfl
            simp only [Act.put, List.setIfInBounds_toArray, List.set_cons_zero, List.set_cons_succ]
            refine wpAnyU_takeL (i := 1) (v := ?v1) rfl (by kernel_rfl) (by kernel_rfl) (by kernel_rfl) (by kernel_rfl) (fun _ _ _ h => h) (by rfl) ?h1 (by assumption) ?_
            case h1 => intro w hSw; go_simp <;> with_reducible rfl
            simp only [Act.put, List.setIfInBounds_toArray, List.set_cons_zero, List.set_cons_succ]
            refine wpAnyU_takeL (i := 2) (v := ?v2) rfl (by kernel_rfl) (by kernel_rfl) (by kernel_rfl) (by kernel_rfl) (fun _ _ _ h => h) (by rfl) ?h2 (by assumption) ?_
            case h2 => intro w hSw; go_simp <;> with_reducible rfl
            simp only [Act.put, List.setIfInBounds_toArray, List.set_cons_zero, List.set_cons_succ]
            refine wpAnyU_takeL (i := 3) (v := ?v3) rfl (by kernel_rfl) (by kernel_rfl) (by kernel_rfl) (by kernel_rfl) (fun _ _ _ h => h) (by rfl) ?h3 (by assumption) ?_
            case h3 => intro w hSw; go_simp <;> with_reducible rfl
            simp only [Act.put, List.setIfInBounds_toArray, List.set_cons_zero, List.set_cons_succ]
            refine wpAnyU_takeL (i := 4) (v := ?v4) rfl (by kernel_rfl) (by kernel_rfl) (by kernel_rfl) (by kernel_rfl) (fun _ _ _ h => h) (by rfl) ?h4 (by assumption) ?_
            case h4 => intro w hSw; go_simp <;> with_reducible rfl
            simp only [Act.put, List.setIfInBounds_toArray, List.set_cons_zero, List.set_cons_succ]
            refine wpAnyU_takeL (i := 6) (v := ?v6) rfl (by kernel_rfl) (by kernel_rfl) (by kernel_rfl) (by kernel_rfl) (fun _ _ _ h => h) (by rfl) ?h6 (by assumption) ?_
            case h6 => intro w hSw; go_simp <;> with_reducible rfl
            simp only [Act.put, List.setIfInBounds_toArray, List.set_cons_zero, List.set_cons_succ]
            refine wpAnyU_takeL (i := 7) (v := ?v7) rfl (by kernel_rfl) (by kernel_rfl) (by kernel_rfl) (by kernel_rfl) (fun _ _ _ h => h) (by rfl) ?h7 (by assumption) ?_
            case h7 => intro w hSw; go_simp <;> with_reducible rfl
            simp only [Act.put, List.setIfInBounds_toArray, List.set_cons_zero, List.set_cons_succ]
            refine wpAnyU_takeL (i := 8) (v := ?v8) rfl (by kernel_rfl) (by kernel_rfl) (by kernel_rfl) (by kernel_rfl) (fun _ _ _ h => h) (by rfl) ?h8 (by assumption) ?_
            case h8 => intro w hSw; go_simp <;> with_reducible rfl
            simp only [Act.put, List.setIfInBounds_toArray, List.set_cons_zero, List.set_cons_succ]
            refine wpAnyU_takeL (i := 9) (v := ?v9) rfl (by kernel_rfl) (by kernel_rfl) (by kernel_rfl) (by kernel_rfl) (fun _ _ _ h => h) (by rfl) ?h9 (by assumption) ?_
            case h9 => intro w hSw; go_simp <;> with_reducible rfl
            simp only [Act.put, List.setIfInBounds_toArray, List.set_cons_zero, List.set_cons_succ]
            refine wpAnyU_oneL (i := 5) (by kernel_rfl) rfl (by rfl) (fun K hK => ?_)
            go_simp
            refine (turned_any b' 30 q2 (by decide) _).mono ?_
            rintro _ w6 ⟨rfl, rfl⟩
            refine hK.out _ _ (fun _ => ⟨c0, c1, c2, c3⟩) (fun hHeld => ?_)
            clear hK K
            refine wpAnyU_takeL (i := 10) (v := ?v10) rfl (by kernel_rfl) (by kernel_rfl) (by kernel_rfl) (by kernel_rfl) (fun _ _ _ h => h) (by rfl) ?h10 (by assumption) ?_
            case h10 => intro w hSw; go_simp <;> with_reducible rfl
            simp only [Act.put, List.setIfInBounds_toArray, List.set_cons_zero, List.set_cons_succ]
            refine wpAnyU_oneL (i := 11) (by kernel_rfl) rfl (by rfl) (fun K hK => ?_)
            refine wp_store_R 59 _ _ rfl gv _ rfl rfl hVd i5 rfl rfl ?_
            intro w7 hV7 hg7 hz7
            refine hK.out _ _ (fun h => absurd rfl h) (fun hHeld => ?_)
            clear hK K
            refine wpAnyU_done (by kernel_rfl) ?_ _
            refine NoPanic.normal ?_
            have hA7 := (hA.drew.drew).grown hg7 (by simp; omega)
            have hB7 := (hB.drew.drew).grown hg7 (by simp; omega)
            have hW7 : SlV w7 (.slice (some ⟨g, 0, none⟩) k cap) (C .u32 W) := SlV.grown (w := wr.drew.drew) (hWs.keep fun _ _ _ => rfl) hg7 (fun b hb => by simp [Value.ownBlock] at hb; subst hb; simp; omega)
            have hL7 := below_grown (hL.drew.drew) hg7 (by omega) hlv
            have hV7' : Row w7 gv 59 (C .u32 (stps1 W s (t + 1)).list) := by rw [HT2.out]; exact hV7
            have G1 := Away.mk hV7'
            have G2 := Away.mk hA7
            have G3 := Away.mk hB7
            have G4 := Away.mk hW7
            have G5 := Away.mk hL7
            clear hV7' hA7 hB7 hW7 hL7 hV hA hB hWs hL c0 c1 c2 c3 hHeld hVd hV7 hg7 hz7 q1 q2 q3 q4 q5
            go_wp2
            go_roundw
            case rel => exact ⟨t + 1, by omega, by go_num, G1.out, G2.out, G3.out, G4.out, G5.out⟩
            case measure => simp [intOf]; omega
          · have HT80 : Away (t = 80) := ⟨by omega⟩
            have hSe : stps1 W s t = stps1 W s 80 := by rw [HT80.out]
            rw [hSe] at hV q1 q2 q3 q4 q5
            have hlti : ¬ (t : Int) < 80 := by omega
            have hSo : (stps1 W s 80).ok := ⟨q1, q2, q3, q4, q5⟩
            generalize stps1 W s 80 = S at *
            clear HT hSe q1 q2 q3 q4 q5
            go_wp2
            go_loopw [12] (fun i wx => ∃ j : Nat, j ≤ 5 ∧ i = .int .i64 j ∧ Row wx gv 59 (C .u32 (mixl s S j)) ∧ Row wx w.heap.size 59 (C .u32 s.list) ∧ Row wx (w.heap.size + 1) 59 (C .u32 (Z 5)) ∧ Below w.heap.size w wx) (fun i _ => 5 - (intOf i).toNat)
            case atStart => exact ⟨0, Nat.zero_le _, rfl, hV, hA, hB, hL⟩
            case round =>
              clear hV hA hB hL hWs
              obtain ⟨j, hj, rfl, hV, hA, hB, hL⟩ := hrel
              by_cases hlt5 : j < 5
              · have cx := hV.cell j
                rw [C_get .u32 (by rw [mixl_length]; omega), mixl_get s S j hlt5] at cx
                have cy := hA.cell j
                rw [C_get .u32 (show j < s.list.length by simp [S5.list]; omega)] at cy
                have HX := Away.mk (mixl_succ s S j hlt5)
                have lx := list_lt hSo j
                have ly := list_lt hs j
                generalize S.list.getD j 0 = x at *
                generalize s.list.getD j 0 = y at *
                obtain ⟨z, hz⟩ : ∃ z, (y + x) % 4294967296 = z := ⟨_, rfl⟩
                have ez : IntKind.u32.wrap ((x : Int) + (y : Int)) = (z : Int) := by rw [IntKind.wrap_u32']; omega
                rw [hz] at HX
                have hj5 : (j : Int) < 5 := by omega
                have hfz := hV.frozen j
                have hlv := hV.lt
                clear hz
                go_upto_region 18 with fail
                refine wp_region_noPanic ?_
                refine wp_region_U (S := fun w' => w'.cell? ⟨gv, j, none⟩ = some (.int .u32 (x : Int)) ∧ w'.cell? ⟨w.heap.size, j, none⟩ = some (.int .u32 (y : Int))) 9 (by kernel_rfl) (⟨cx, cy⟩) (fun hHeld => ?_)
                refine wpAnyU_takeL (i := 0) (v := ?v0q) rfl (by kernel_rfl) (by kernel_rfl) (by kernel_rfl) (by kernel_rfl) (fun _ _ _ h => h) (by rfl) ?h0q (by assumption) ?_
                case h0q => intro w hSw; go_simp <;> with_reducible rfl
                simp only [Act.put, List.setIfInBounds_toArray, List.set_cons_zero, List.set_cons_succ]
                refine wpAnyU_takeL (i := 1) (v := ?v1q) rfl (by kernel_rfl) (by kernel_rfl) (by kernel_rfl) (by kernel_rfl) (fun _ _ _ h => h) (by rfl) ?h1q (by assumption) ?_
                case h1q => intro w hSw; go_simp <;> with_reducible rfl
                simp only [Act.put, List.setIfInBounds_toArray, List.set_cons_zero, List.set_cons_succ]
                refine wpAnyU_takeL (i := 2) (v := ?v2q) rfl (by kernel_rfl) (by kernel_rfl) (by kernel_rfl) (by kernel_rfl) (fun _ _ _ h => h) (by rfl) ?h2q (by assumption) ?_
                case h2q => intro w hSw; go_simp <;> with_reducible rfl
                simp only [Act.put, List.setIfInBounds_toArray, List.set_cons_zero, List.set_cons_succ]
                refine wpAnyU_takeL (i := 3) (v := ?v3q) rfl (by kernel_rfl) (by kernel_rfl) (by kernel_rfl) (by kernel_rfl) (fun _ _ _ h => h) (by rfl) ?h3q (by assumption) ?_
                case h3q => intro w hSw; go_simp <;> with_reducible rfl
                simp only [Act.put, List.setIfInBounds_toArray, List.set_cons_zero, List.set_cons_succ]
                refine wpAnyU_takeL (i := 4) (v := ?v4q) rfl (by kernel_rfl) (by kernel_rfl) (by kernel_rfl) (by kernel_rfl) (fun _ _ _ h => h) (by rfl) ?h4q (by assumption) ?_
                case h4q => intro w hSw; go_simp <;> with_reducible rfl
                simp only [Act.put, List.setIfInBounds_toArray, List.set_cons_zero, List.set_cons_succ]
                refine wpAnyU_takeL (i := 5) (v := ?v5q) rfl (by kernel_rfl) (by kernel_rfl) (by kernel_rfl) (by kernel_rfl) (fun _ _ _ h => h) (by rfl) ?h5q (by assumption) ?_
                case h5q => intro w hSw; go_simp <;> with_reducible rfl
                simp only [Act.put, List.setIfInBounds_toArray, List.set_cons_zero, List.set_cons_succ]
                refine wpAnyU_takeL (i := 6) (v := ?v6q) rfl (by kernel_rfl) (by kernel_rfl) (by kernel_rfl) (by kernel_rfl) (fun _ _ _ h => h) (by rfl) ?h6q (by assumption) ?_
                case h6q => intro w hSw; go_simp <;> with_reducible rfl
                simp only [Act.put, List.setIfInBounds_toArray, List.set_cons_zero, List.set_cons_succ]
                refine wpAnyU_takeL (i := 7) (v := ?v7q) rfl (by kernel_rfl) (by kernel_rfl) (by kernel_rfl) (by kernel_rfl) (fun _ _ _ h => h) (by rfl) ?h7q (by assumption) ?_
                case h7q => intro w hSw; go_simp <;> with_reducible rfl
                simp only [Act.put, List.setIfInBounds_toArray, List.set_cons_zero, List.set_cons_succ]
                refine wpAnyU_takeL (i := 8) (v := ?v8q) rfl (by kernel_rfl) (by kernel_rfl) (by kernel_rfl) (by kernel_rfl) (fun _ _ _ h => h) (by rfl) ?h8q (by assumption) ?_
                case h8q => intro w hSw; go_simp <;> with_reducible rfl
                simp only [Act.put, List.setIfInBounds_toArray, List.set_cons_zero, List.set_cons_succ]
                refine wpAnyU_oneL (i := 9) (by kernel_rfl) rfl (by rfl) (fun K hK => ?_)
                go_simp
                refine hK.out _ _ (fun h => absurd rfl h) (fun hHeld => ?_)
                clear hK K
                refine wpAnyU_done (by kernel_rfl) ?_ _
                refine NoPanic.normal ?_
                have hV7 : Row (wr.setCell ⟨gv, j, none⟩ (.int .u32 (z : Int))) gv 59 (C .u32 (mixl s S (j + 1))) := by rw [← HX.out, C_set]; exact hV.set j _
                have hA7 := hA.other (i := j) (.int .u32 (z : Int)) (show w.heap.size ≠ gv by omega)
                have hB7 := hB.other (i := j) (.int .u32 (z : Int)) (show w.heap.size + 1 ≠ gv by omega)
                have hL7 := hL.setCell (p := ⟨gv, j, none⟩) (by simp; omega) (.int .u32 (z : Int))
                have G1 := Away.mk hV7
                have G2 := Away.mk hA7
                have G3 := Away.mk hB7
                have G4 := Away.mk hL7
                clear hV7 hA7 hB7 hL7 hV hA hB hL cx cy hHeld hfz lx ly ez

                go_wp2
                go_roundw
                case rel => exact ⟨j + 1, by omega, by go_num, G1.out.drew, G2.out.drew, G3.out.drew, G4.out.drew⟩
                case measure => simp [intOf]; omega
              · have HJ5 : Away (j = 5) := ⟨by omega⟩
                rw [HJ5.out, mixl_all] at hV
                have hj5 : ¬ (j : Int) < 5 := by omega
                have hBlt2 := hB.lt
                obtain ⟨T, hT⟩ : ∃ T, add1 s S = T := ⟨_, rfl⟩
                rw [hT] at hV HBk
                have i5T : (Tryd.prog.info? 59).map (·.size) = some (C .u32 T.list).toArray.size := i5
                have i5T' : (Tryd.prog.info? 59).map (·.size) = some (C .u32 T.list).length := i5
                have h5T : (C .u32 (Z 5)).length = (C .u32 T.list).length := rfl
                clear hT
                go_wp2_with (first | refine wpList_load_row rfl 59 _ rfl _ rfl _ _ _ _ hV Tryd.underlying59 rfl i5T ?_ | (refine wpList_store_R rfl 59 _ _ rfl _ (C .u32 T.list) rfl rfl hB i5T' h5T (C_allL _ _) ?_; intro w8 hB8 hg8 hz8))
                exact result_row Tryd.results41 rfl hB8 Tryd.underlying59 rfl i5T' rfl ⟨by rw [HBk.out], below_grown hL hg8 (by omega) hBlt2⟩
end Go.Proofs.YtmbaenodibfedaaDoor.S1
