/-
  The contract of the document's Block of the third hash, over this seat's translation. Conditions: 128 bytes.
-/
import Derived.Test.YtmbaenodibfedaaDoorRf3P
import Derived.Test.YtmbaenodibfedaaDoorRf3A
import Derived.Test.YtmbaenodibfedaaDoorKit7
namespace Go.Proofs.YtmbaenodibfedaaDoor.S3
open Go.RowKit
set_option linter.unusedVariables false
set_option maxRecDepth 10000

/-- Two numbers put together, the second below the first one's last bit. -/
theorem or64 (n a b : Nat) (hb : b < 2 ^ n) (h : a * 2 ^ n + b < 18446744073709551616) : bits .or .u64 ((a * 2 ^ n : Nat) : Int) (b : Int) = ((a * 2 ^ n + b : Nat) : Int) := by
  rw [u64_or_nat _ _ (by omega) (by omega), Nat.mul_comm a, Nat.two_pow_add_eq_or_of_lt hb]
set_option maxRecDepth 10000 in
/-- Eight bytes put together, as the operations write it. -/
theorem or8 (x0 x1 x2 x3 x4 x5 x6 x7 : Nat) (h0 : x0 < 256) (h1 : x1 < 256) (h2 : x2 < 256) (h3 : x3 < 256) (h4 : x4 < 256) (h5 : x5 < 256) (h6 : x6 < 256) (h7 : x7 < 256) :
    ∃ p0 p1 p2 p3 p4 p5 p6 z1 z2 z3 z4 z5 z6 z7 : Nat, z7 = x0 * 72057594037927936 + x1 * 281474976710656 + x2 * 1099511627776 + x3 * 4294967296 + x4 * 16777216 + x5 * 65536 + x6 * 256 + x7 ∧ IntKind.u64.wrap ((x0 : Int) * 72057594037927936) = (p0 : Int) ∧ IntKind.u64.wrap ((x1 : Int) * 281474976710656) = (p1 : Int) ∧ IntKind.u64.wrap ((x2 : Int) * 1099511627776) = (p2 : Int) ∧ IntKind.u64.wrap ((x3 : Int) * 4294967296) = (p3 : Int) ∧ IntKind.u64.wrap ((x4 : Int) * 16777216) = (p4 : Int) ∧ IntKind.u64.wrap ((x5 : Int) * 65536) = (p5 : Int) ∧ IntKind.u64.wrap ((x6 : Int) * 256) = (p6 : Int) ∧
      bits .or .u64 (p0 : Int) (p1 : Int) = (z1 : Int) ∧ bits .or .u64 (z1 : Int) (p2 : Int) = (z2 : Int) ∧ bits .or .u64 (z2 : Int) (p3 : Int) = (z3 : Int) ∧ bits .or .u64 (z3 : Int) (p4 : Int) = (z4 : Int) ∧ bits .or .u64 (z4 : Int) (p5 : Int) = (z5 : Int) ∧ bits .or .u64 (z5 : Int) (p6 : Int) = (z6 : Int) ∧ bits .or .u64 (z6 : Int) (x7 : Int) = (z7 : Int) := by
  refine ⟨x0 * 72057594037927936, x1 * 281474976710656, x2 * 1099511627776, x3 * 4294967296, x4 * 16777216, x5 * 65536, x6 * 256, x0 * 72057594037927936 + x1 * 281474976710656, x0 * 72057594037927936 + x1 * 281474976710656 + x2 * 1099511627776, x0 * 72057594037927936 + x1 * 281474976710656 + x2 * 1099511627776 + x3 * 4294967296, x0 * 72057594037927936 + x1 * 281474976710656 + x2 * 1099511627776 + x3 * 4294967296 + x4 * 16777216, x0 * 72057594037927936 + x1 * 281474976710656 + x2 * 1099511627776 + x3 * 4294967296 + x4 * 16777216 + x5 * 65536, x0 * 72057594037927936 + x1 * 281474976710656 + x2 * 1099511627776 + x3 * 4294967296 + x4 * 16777216 + x5 * 65536 + x6 * 256, _, rfl, ?_, ?_, ?_, ?_, ?_, ?_, ?_, ?_, ?_, ?_, ?_, ?_, ?_, ?_⟩
  · rw [IntKind.wrap_u64]; omega
  · rw [IntKind.wrap_u64]; omega
  · rw [IntKind.wrap_u64]; omega
  · rw [IntKind.wrap_u64]; omega
  · rw [IntKind.wrap_u64]; omega
  · rw [IntKind.wrap_u64]; omega
  · rw [IntKind.wrap_u64]; omega
  · have := or64 56 (x0) (x1 * 281474976710656) (by omega) (by omega)
    rw [show (2 : Nat) ^ 56 = 72057594037927936 from rfl, show (x0) * 72057594037927936 = x0 * 72057594037927936 by omega] at this
    exact this
  · have := or64 48 (x0 * 256 + x1) (x2 * 1099511627776) (by omega) (by omega)
    rw [show (2 : Nat) ^ 48 = 281474976710656 from rfl, show (x0 * 256 + x1) * 281474976710656 = x0 * 72057594037927936 + x1 * 281474976710656 by omega] at this
    exact this
  · have := or64 40 (x0 * 65536 + x1 * 256 + x2) (x3 * 4294967296) (by omega) (by omega)
    rw [show (2 : Nat) ^ 40 = 1099511627776 from rfl, show (x0 * 65536 + x1 * 256 + x2) * 1099511627776 = x0 * 72057594037927936 + x1 * 281474976710656 + x2 * 1099511627776 by omega] at this
    exact this
  · have := or64 32 (x0 * 16777216 + x1 * 65536 + x2 * 256 + x3) (x4 * 16777216) (by omega) (by omega)
    rw [show (2 : Nat) ^ 32 = 4294967296 from rfl, show (x0 * 16777216 + x1 * 65536 + x2 * 256 + x3) * 4294967296 = x0 * 72057594037927936 + x1 * 281474976710656 + x2 * 1099511627776 + x3 * 4294967296 by omega] at this
    exact this
  · have := or64 24 (x0 * 4294967296 + x1 * 16777216 + x2 * 65536 + x3 * 256 + x4) (x5 * 65536) (by omega) (by omega)
    rw [show (2 : Nat) ^ 24 = 16777216 from rfl, show (x0 * 4294967296 + x1 * 16777216 + x2 * 65536 + x3 * 256 + x4) * 16777216 = x0 * 72057594037927936 + x1 * 281474976710656 + x2 * 1099511627776 + x3 * 4294967296 + x4 * 16777216 by omega] at this
    exact this
  · have := or64 16 (x0 * 1099511627776 + x1 * 4294967296 + x2 * 16777216 + x3 * 65536 + x4 * 256 + x5) (x6 * 256) (by omega) (by omega)
    rw [show (2 : Nat) ^ 16 = 65536 from rfl, show (x0 * 1099511627776 + x1 * 4294967296 + x2 * 16777216 + x3 * 65536 + x4 * 256 + x5) * 65536 = x0 * 72057594037927936 + x1 * 281474976710656 + x2 * 1099511627776 + x3 * 4294967296 + x4 * 16777216 + x5 * 65536 by omega] at this
    exact this
  · have := or64 8 (x0 * 281474976710656 + x1 * 1099511627776 + x2 * 4294967296 + x3 * 16777216 + x4 * 65536 + x5 * 256 + x6) (x7) (by omega) (by omega)
    rw [show (2 : Nat) ^ 8 = 256 from rfl, show (x0 * 281474976710656 + x1 * 1099511627776 + x2 * 4294967296 + x3 * 16777216 + x4 * 65536 + x5 * 256 + x6) * 256 = x0 * 72057594037927936 + x1 * 281474976710656 + x2 * 1099511627776 + x3 * 4294967296 + x4 * 16777216 + x5 * 65536 + x6 * 256 by omega] at this
    exact this
theorem wrap8 (x : Nat) (h : x < 256) : IntKind.u64.wrap (x : Int) = (x : Int) := by rw [IntKind.wrap_u64]; omega
/-- The numbers, the first k of them added. -/
def mixl (s S : S8) (k : Nat) : List Nat := (add3 s S).list.take k ++ S.list.drop k
theorem mixl_length (s S : S8) (k : Nat) : (mixl s S k).length = 8 := by simp [mixl, S8.list]; omega
theorem mixl_all (s S : S8) : mixl s S 8 = (add3 s S).list := rfl
theorem mixl_get (s S : S8) (k : Nat) (h : k < 8) : (mixl s S k).getD k 0 = S.list.getD k 0 := by
  have h' : k = 0 ∨ k = 1 ∨ k = 2 ∨ k = 3 ∨ k = 4 ∨ k = 5 ∨ k = 6 ∨ k = 7 := by omega
  rcases h' with rfl | rfl | rfl | rfl | rfl | rfl | rfl | rfl <;> rfl
theorem mixl_succ (s S : S8) (k : Nat) (h : k < 8) : (mixl s S k).set k ((s.list.getD k 0 + S.list.getD k 0) % 18446744073709551616) = mixl s S (k + 1) := by
  have h' : k = 0 ∨ k = 1 ∨ k = 2 ∨ k = 3 ∨ k = 4 ∨ k = 5 ∨ k = 6 ∨ k = 7 := by omega
  rcases h' with rfl | rfl | rfl | rfl | rfl | rfl | rfl | rfl <;> rfl
theorem sch3_first (b : List Nat) (t : Nat) (h : t < 16) : sch3 b (t + 1) = sch3 b t ++ [wd8 b t] := by rw [sch3, if_pos h]
theorem sch3_next (b : List Nat) (t : Nat) (h : 16 ≤ t) : sch3 b (t + 1) = sch3 b t ++ [nxt3 (sch3 b t) t] := by rw [sch3, if_neg (by omega)]

set_option maxRecDepth 10000 in
set_option maxHeartbeats 16000000 in
theorem refblock_any (s : S8) (hs : s.ok) (v : Value) (b : List Nat) (w : World) (hv : SlV w v (C .u8 b)) (hb : Lo 256 b) (hl : b.length = 128) :
    Calls Tryd.prog 45 #[.agg (C .u64 s.list).toArray, v] w fun e w' => e = .returned (.agg (C .u64 (blk3 s b).list).toArray) ∧ Below w.heap.size w w' := by
  obtain ⟨sa, sc, rfl, h1, h2⟩ := hv.shp hl
  obtain ⟨bb, off, rfl, hbl, hcx⟩ := hv.cells (by rw [C_length]; omega)
  have hA := ((Row.new w 69 (C .u64 s.list)).alloc (.cells (C .u64 (Z 8)).toArray 69)).alloc (.cells #[] 37)
  have hB := (Row.newAt (w.alloc (.cells (C .u64 s.list).toArray 69)) (w.heap.size + 1) (by simp) 69 (C .u64 (Z 8))).alloc (.cells #[] 37)
  have hO := own_empty_at ((w.alloc (.cells (C .u64 s.list).toArray 69)).alloc (.cells (C .u64 (Z 8)).toArray 69)) (w.heap.size + 1 + 1) (w.heap.size + 1 + 1) 37 (by simp) (by simp)
  have hL0 := Below.more (Below.refl w.heap.size w) (Nat.le_refl _) (.cells (C .u64 s.list).toArray 69)
  have hL1 := Below.more hL0.1 hL0.2 (.cells (C .u64 (Z 8)).toArray 69)
  have hL := (Below.more hL1.1 hL1.2 (.cells #[] 37)).1
  clear hL0 hL1
  go_enter Tryd.func45, Tryd.ntmps45
  go_wp2_with (refine wpList_alloc_row rfl 69 rfl _ z8 ?_)
  generalize ((w.alloc (.cells (C .u64 s.list).toArray 69)).alloc (.cells (C .u64 (Z 8)).toArray 69)).alloc (.cells #[] 37) = w3 at *
  go_loopw [5, 6] (fun v i wr => ∃ k : Nat, k ≤ 80 ∧ i = .int .i64 k ∧ wr.ownsRow (w.heap.size + 1 + 1) 37 1 v k (C .u64 (sch3 b k)) ∧ Row wr w.heap.size 69 (C .u64 s.list) ∧ Row wr (w.heap.size + 1) 69 (C .u64 (Z 8)) ∧ Below w.heap.size w wr) (fun _ i _ => 80 - (intOf i).toNat)
  case atStart => exact ⟨0, Nat.zero_le _, rfl, hO, hA, hB, hL⟩
  case round =>
    clear hO hA hB hL
    obtain ⟨k, hk, rfl, hO, hA, hB, hL⟩ := hrel
    by_cases h16 : k < 16
    · have hc : ∀ i, i < 128 → wr.cell? ⟨bb, off + i, none⟩ = some (.int .u8 (b.getD i 0 : Nat)) := fun i hi => by
        have h := hcx i _ (C_get .u8 (show i < b.length by omega))
        exact (hL.cell (p := ⟨bb, off + i, none⟩) hbl).trans h
      obtain ⟨n0, hn0⟩ : ∃ n, 8 * k = n := ⟨_, rfl⟩
      have c0 := hc n0 (by omega)
      have c1 := hc (n0 + 1) (by omega)
      have c2 := hc (n0 + 2) (by omega)
      have c3 := hc (n0 + 3) (by omega)
      have c4 := hc (n0 + 4) (by omega)
      have c5 := hc (n0 + 5) (by omega)
      have c6 := hc (n0 + 6) (by omega)
      have c7 := hc (n0 + 7) (by omega)
      have x0 := hb.getD (by decide) n0
      have x1 := hb.getD (by decide) (n0 + 1)
      have x2 := hb.getD (by decide) (n0 + 2)
      have x3 := hb.getD (by decide) (n0 + 3)
      have x4 := hb.getD (by decide) (n0 + 4)
      have x5 := hb.getD (by decide) (n0 + 5)
      have x6 := hb.getD (by decide) (n0 + 6)
      have x7 := hb.getD (by decide) (n0 + 7)
      have HW : Away (wd8 b k = b.getD n0 0 * 72057594037927936 + b.getD (n0 + 1) 0 * 281474976710656 + b.getD (n0 + 2) 0 * 1099511627776 + b.getD (n0 + 3) 0 * 4294967296 + b.getD (n0 + 4) 0 * 16777216 + b.getD (n0 + 5) 0 * 65536 + b.getD (n0 + 6) 0 * 256 + b.getD (n0 + 7) 0) := ⟨by rw [← hn0]; rfl⟩
      generalize b.getD n0 0 = y0 at *
      generalize b.getD (n0 + 1) 0 = y1 at *
      generalize b.getD (n0 + 2) 0 = y2 at *
      generalize b.getD (n0 + 3) 0 = y3 at *
      generalize b.getD (n0 + 4) 0 = y4 at *
      generalize b.getD (n0 + 5) 0 = y5 at *
      generalize b.getD (n0 + 6) 0 = y6 at *
      generalize b.getD (n0 + 7) 0 = y7 at *
      obtain ⟨p0, p1, p2, p3, p4, p5, p6, z1, z2, z3, z4, z5, z6, z7, hz, r0, r1, r2, r3, r4, r5, r6, o1, o2, o3, o4, o5, o6, o7⟩ := or8 y0 y1 y2 y3 y4 y5 y6 y7 x0 x1 x2 x3 x4 x5 x6 x7
      have vv0 := wrap8 y0 x0
      have vv1 := wrap8 y1 x1
      have vv2 := wrap8 y2 x2
      have vv3 := wrap8 y3 x3
      have vv4 := wrap8 y4 x4
      have vv5 := wrap8 y5 x5
      have vv6 := wrap8 y6 x6
      have vv7 := wrap8 y7 x7
      rw [← hz] at HW
      obtain ⟨n1, hn1⟩ : ∃ n, n0 + 1 = n := ⟨_, rfl⟩
      obtain ⟨n2, hn2⟩ : ∃ n, n0 + 2 = n := ⟨_, rfl⟩
      obtain ⟨n3, hn3⟩ : ∃ n, n0 + 3 = n := ⟨_, rfl⟩
      obtain ⟨n4, hn4⟩ : ∃ n, n0 + 4 = n := ⟨_, rfl⟩
      obtain ⟨n5, hn5⟩ : ∃ n, n0 + 5 = n := ⟨_, rfl⟩
      obtain ⟨n6, hn6⟩ : ∃ n, n0 + 6 = n := ⟨_, rfl⟩
      obtain ⟨n7, hn7⟩ : ∃ n, n0 + 7 = n := ⟨_, rfl⟩
      rw [hn1] at c1; rw [hn2] at c2; rw [hn3] at c3; rw [hn4] at c4; rw [hn5] at c5; rw [hn6] at c6; rw [hn7] at c7
      have d0 : IntKind.i64.wrap (8 * (k : Int)) = (n0 : Int) := by rw [IntWalk.i64_in _ ⟨by omega, by omega⟩]; omega
      have dz : IntKind.i64.wrap (n0 : Int) = (n0 : Int) := by rw [IntWalk.i64_in _ ⟨by omega, by omega⟩]
      have d1 : IntKind.i64.wrap ((n0 : Int) + 1) = (n1 : Int) := by rw [IntWalk.i64_in _ ⟨by omega, by omega⟩]; omega
      have d2 : IntKind.i64.wrap ((n0 : Int) + 2) = (n2 : Int) := by rw [IntWalk.i64_in _ ⟨by omega, by omega⟩]; omega
      have d3 : IntKind.i64.wrap ((n0 : Int) + 3) = (n3 : Int) := by rw [IntWalk.i64_in _ ⟨by omega, by omega⟩]; omega
      have d4 : IntKind.i64.wrap ((n0 : Int) + 4) = (n4 : Int) := by rw [IntWalk.i64_in _ ⟨by omega, by omega⟩]; omega
      have d5 : IntKind.i64.wrap ((n0 : Int) + 5) = (n5 : Int) := by rw [IntWalk.i64_in _ ⟨by omega, by omega⟩]; omega
      have d6 : IntKind.i64.wrap ((n0 : Int) + 6) = (n6 : Int) := by rw [IntWalk.i64_in _ ⟨by omega, by omega⟩]; omega
      have d7 : IntKind.i64.wrap ((n0 : Int) + 7) = (n7 : Int) := by rw [IntWalk.i64_in _ ⟨by omega, by omega⟩]; omega
      have b0 : (n0 : Int) < 128 := by omega
      have b1 : (n1 : Int) < 128 := by omega
      have b2 : (n2 : Int) < 128 := by omega
      have b3 : (n3 : Int) < 128 := by omega
      have b4 : (n4 : Int) < 128 := by omega
      have b5 : (n5 : Int) < 128 := by omega
      have b6 : (n6 : Int) < 128 := by omega
      have b7 : (n7 : Int) < 128 := by omega
      have h16i : (k : Int) < 16 := by omega
      have h64i : (k : Int) < 80 := by omega
      clear hn0 hn1 hn2 hn3 hn4 hn5 hn6 hn7 hz hc
      have HO := Away.mk hO
      have HL := Away.mk hL
      have HA := Away.mk hA
      have HB := Away.mk hB
      clear hO hL hA hB
      go_wp2
      have hsz := HL.out.size
      have hcw : ∀ (n y : Nat), wr.cell? ⟨bb, off + n, none⟩ = some (.int .u8 (y : Int)) → w.cell? ⟨bb, off + n, none⟩ = some (.int .u8 (y : Int)) := fun n y h => (HL.out.cell (p := ⟨bb, off + n, none⟩) hbl).symm.trans h
      have HW' := Away.mk hcw
      clear hcw
      have hone : (wr.alloc (.cells #[.int .u64 (z7 : Int)] 37)).drew.cell? ⟨wr.heap.size, 0, none⟩ = some (.int .u64 (z7 : Int)) := by simp [go_sem]
      have q1 : k + 1 ≤ maxLen := by unfold maxLen; omega
      have q2 : (k + 1) * 8 ≤ 140737488355328 := by omega
      have q3 : w.heap.size + 1 + 1 ≤ ((wr.alloc (.cells #[.int .u64 (z7 : Int)] 37)).drew).heap.size := by have := HB.out.lt; simp; omega
      have HO1 : Away (((wr.alloc (.cells #[.int .u64 (z7 : Int)] 37)).drew).ownsRow (w.heap.size + 1 + 1) 37 1 u5 k (C .u64 (sch3 b k))) := ⟨World.ownsRow.drew (HO.out.alloc _)⟩
      have hnA : ∀ g, g < w.heap.size + 1 + 1 → some g ≠ u5.ownBlock := fun g hg he => by have := (HO.out.lt g he.symm).1; omega
      have HRA : Away (∀ w4, ((wr.alloc (.cells #[.int .u64 (z7 : Int)] 37)).drew).grownBy w4 u5.ownBlock → Row w4 w.heap.size 69 (C .u64 s.list) ∧ Row w4 (w.heap.size + 1) 69 (C .u64 (Z 8))) := ⟨fun w4 hg => ⟨((HA.out.alloc _).drew).grown hg (hnA _ (by omega)), ((HB.out.alloc _).drew).grown hg (hnA _ (by omega))⟩⟩
      clear hnA
      have HG : Away (∀ w4, ((wr.alloc (.cells #[.int .u64 (z7 : Int)] 37)).drew).grownBy w4 u5.ownBlock → Below w.heap.size w w4) := ⟨fun w4 hg => ((HL.out.alloc hsz _).drew).grown hg (by simp; omega) (fun k hk => by have := (HO.out.lt k hk).1; omega)⟩
      simp only [List.append_eq, List.cons_append, List.nil_append]
      go_region_held3 (fun w' => w'.cell? ⟨bb, off + n0, none⟩ = some (.int .u8 (y0 : Int)) ∧ w'.cell? ⟨bb, off + n1, none⟩ = some (.int .u8 (y1 : Int)) ∧ w'.cell? ⟨bb, off + n2, none⟩ = some (.int .u8 (y2 : Int)) ∧ w'.cell? ⟨bb, off + n3, none⟩ = some (.int .u8 (y3 : Int)) ∧ w'.cell? ⟨bb, off + n4, none⟩ = some (.int .u8 (y4 : Int)) ∧ w'.cell? ⟨bb, off + n5, none⟩ = some (.int .u8 (y5 : Int)) ∧ w'.cell? ⟨bb, off + n6, none⟩ = some (.int .u8 (y6 : Int)) ∧ w'.cell? ⟨bb, off + n7, none⟩ = some (.int .u8 (y7 : Int)))
        (first | exact ⟨c0, c1, c2, c3, c4, c5, c6, c7⟩ | exact ⟨cell_alloc c0 _, cell_alloc c1 _, cell_alloc c2 _, cell_alloc c3 _, cell_alloc c4 _, cell_alloc c5 _, cell_alloc c6 _, cell_alloc c7 _⟩ | exact ⟨f0, f1, f2, f3, f4, f5, f6, f7⟩)
        ((refine step_append_one (by rfl) (.tmp 26) (.tmp 97) 100 (by rfl) (w.heap.size + 1 + 1) 37 _ 8 Tryd.underlying100 inf64 rfl _ k _ (by rfl) HO1.out _ _ (.int .u64 (z7 : Int)) (by rfl) hone rfl q1 q2 q3 ?_; intro v4 w4 ho4 hg4 hk4; have hb4 := HG.out _ hg4; have f0 := (hb4.cell (p := ⟨bb, off + n0, none⟩) hbl).trans (HW'.out _ _ c0); have f1 := (hb4.cell (p := ⟨bb, off + n1, none⟩) hbl).trans (HW'.out _ _ c1); have f2 := (hb4.cell (p := ⟨bb, off + n2, none⟩) hbl).trans (HW'.out _ _ c2); have f3 := (hb4.cell (p := ⟨bb, off + n3, none⟩) hbl).trans (HW'.out _ _ c3); have f4 := (hb4.cell (p := ⟨bb, off + n4, none⟩) hbl).trans (HW'.out _ _ c4); have f5 := (hb4.cell (p := ⟨bb, off + n5, none⟩) hbl).trans (HW'.out _ _ c5); have f6 := (hb4.cell (p := ⟨bb, off + n6, none⟩) hbl).trans (HW'.out _ _ c6); have f7 := (hb4.cell (p := ⟨bb, off + n7, none⟩) hbl).trans (HW'.out _ _ c7)))
      obtain ⟨hA4, hB4⟩ := HRA.out _ hg4
      have ho4' : w4.ownsRow (w.heap.size + 1 + 1) 37 1 v4 (k + 1) (C .u64 (sch3 b (k + 1))) := by
        rw [sch3_first b k h16, ← C_snoc, HW.out]; exact ho4
      clear hk4 q1 q2 q3 HRA HG HO1 HO HL HA HB hone HW' hg4 ho4 f0 f1 f2 f3 f4 f5 f6 f7 c0 c1 c2 c3 c4 c5 c6 c7 vv0 vv1 vv2 vv3 vv4 vv5 vv6 vv7 d0 d1 d2 d3 d4 d5 d6 d7 dz r0 r1 r2 r3 r4 r5 r6 o1 o2 o3 o4 o5 o6 o7
      have G1 := Away.mk ho4'
      have G2 := Away.mk hA4
      have G3 := Away.mk hB4
      have G4 := Away.mk hb4
      clear ho4' hA4 hB4 hb4 hcx hv x0 x1 x2 x3 x4 x5 x6 x7 b0 b1 b2 b3 b4 b5 b6 b7 hsz
      go_wp2
      go_roundw
      case rel => exact ⟨k + 1, by omega, by go_num, G1.out, G2.out, G3.out, G4.out⟩
      case measure => simp [intOf]; omega
    · by_cases h64 : k < 80
      · have hlS := sch3_length b k
        obtain ⟨g, cap, rfl, hbg, hgl, hnc, hcm⟩ := own_shape hO (by omega)
        have hg : ∀ j, 1 ≤ j → j ≤ 16 → wr.cell? ⟨g, k - j, none⟩ = some (.int .u64 ((sch3 b k).getD (k - j) 0 : Nat)) := by
          intro j h1 h16
          rw [hO.cellAt (k - j) (by omega), C_get .u64 (by omega)]
        have hgx : ∀ j, 1 ≤ j → j ≤ 16 → (C .u64 (sch3 b k))[k - j]? = some (.int .u64 ((sch3 b k).getD (k - j) 0 : Nat)) := fun j h1 h16 => C_get .u64 (by omega)
        have c2 := hg 2 (by decide) (by decide)
        have c7 := hg 7 (by decide) (by decide)
        have c15 := hg 15 (by decide) (by decide)
        have c16 := hg 16 (by decide) (by decide)
        have E7 := Away.mk (hgx 7 (by decide) (by decide))
        have E16 := Away.mk (hgx 16 (by decide) (by decide))
        have hlo := (sch3_lo hb k).getD (by decide)
        have l2 := hlo (k - 2)
        have l7 := hlo (k - 7)
        have l15 := hlo (k - 15)
        have l16 := hlo (k - 16)
        have HN : Away (nxt3 (sch3 b k) k = (spr 19 61 6 ((sch3 b k).getD (k - 2) 0) + (sch3 b k).getD (k - 7) 0 + spr 1 8 7 ((sch3 b k).getD (k - 15) 0) + (sch3 b k).getD (k - 16) 0) % 18446744073709551616) := ⟨rfl⟩
        clear hg hgx hlo
        generalize (sch3 b k).getD (k - 2) 0 = x2 at *
        generalize (sch3 b k).getD (k - 7) 0 = x7 at *
        generalize (sch3 b k).getD (k - 15) 0 = x15 at *
        generalize (sch3 b k).getD (k - 16) 0 = x16 at *
        have r15a := refturn_any x15 1 l15 (by decide)
        have r15b := refturn_any x15 8 l15 (by decide)
        have o15a := u64_xor_nat (ror 1 x15) (ror 8 x15) (ror_lt l15 _) (ror_lt l15 _)
        have o15b := u64_xor_nat (ror 1 x15 ^^^ ror 8 x15) (x15 / 2 ^ 7) (xor_lt64 (ror_lt l15 _) (ror_lt l15 _)) (shr_lt64 l15 _)
        have es15 : ror 1 x15 ^^^ ror 8 x15 ^^^ (x15 / 2 ^ 7) = spr 1 8 7 x15 := rfl
        rw [es15] at o15b
        have ey15 : (x15 : Int) / 128 = ((x15 / 2 ^ 7 : Nat) : Int) := by simp
        have ls15 := spr_lt l15 1 8 7
        generalize spr 1 8 7 x15 = s15 at *
        generalize ror 1 x15 = p15 at *
        generalize ror 8 x15 = q15 at *
        generalize x15 / 2 ^ 7 = d15 at *
        clear es15
        have r2a := refturn_any x2 19 l2 (by decide)
        have r2b := refturn_any x2 61 l2 (by decide)
        have o2a := u64_xor_nat (ror 19 x2) (ror 61 x2) (ror_lt l2 _) (ror_lt l2 _)
        have o2b := u64_xor_nat (ror 19 x2 ^^^ ror 61 x2) (x2 / 2 ^ 6) (xor_lt64 (ror_lt l2 _) (ror_lt l2 _)) (shr_lt64 l2 _)
        have es2 : ror 19 x2 ^^^ ror 61 x2 ^^^ (x2 / 2 ^ 6) = spr 19 61 6 x2 := rfl
        rw [es2] at o2b
        have ey2 : (x2 : Int) / 64 = ((x2 / 2 ^ 6 : Nat) : Int) := by simp
        have ls2 := spr_lt l2 19 61 6
        generalize spr 19 61 6 x2 = s2 at *
        generalize ror 19 x2 = p2 at *
        generalize ror 61 x2 = q2 at *
        generalize x2 / 2 ^ 6 = d2 at *
        clear es2
        obtain ⟨z, hz⟩ : ∃ z, (s2 + x7 + s15 + x16) % 18446744073709551616 = z := ⟨_, rfl⟩
        rw [hz] at HN
        obtain ⟨y1, e1, y2, e2, e3⟩ : ∃ y1 : Nat, IntKind.u64.wrap ((s2 : Int) + (x7 : Int)) = (y1 : Int) ∧ ∃ y2 : Nat, IntKind.u64.wrap ((y1 : Int) + (s15 : Int)) = (y2 : Int) ∧ IntKind.u64.wrap ((y2 : Int) + (x16 : Int)) = (z : Int) :=
          ⟨(s2 + x7) % 18446744073709551616, by rw [IntKind.wrap_u64]; omega, ((s2 + x7) % 18446744073709551616 + s15) % 18446744073709551616, by rw [IntKind.wrap_u64]; omega, by rw [IntKind.wrap_u64]; omega⟩
        clear hz
        obtain ⟨n2, f2, b2, w2⟩ : ∃ n : Nat, k - 2 = n ∧ (n : Int) < (k : Int) ∧ IntKind.i64.wrap ((k : Int) - 2) = (n : Int) := ⟨k - 2, rfl, by omega, by rw [IntWalk.i64_in _ ⟨by omega, by omega⟩]; omega⟩
        obtain ⟨n7, f7, b7, w7⟩ : ∃ n : Nat, k - 7 = n ∧ (n : Int) < (k : Int) ∧ IntKind.i64.wrap ((k : Int) - 7) = (n : Int) := ⟨k - 7, rfl, by omega, by rw [IntWalk.i64_in _ ⟨by omega, by omega⟩]; omega⟩
        obtain ⟨n15, f15, b15, w15⟩ : ∃ n : Nat, k - 15 = n ∧ (n : Int) < (k : Int) ∧ IntKind.i64.wrap ((k : Int) - 15) = (n : Int) := ⟨k - 15, rfl, by omega, by rw [IntWalk.i64_in _ ⟨by omega, by omega⟩]; omega⟩
        obtain ⟨n16, f16, b16, w16⟩ : ∃ n : Nat, k - 16 = n ∧ (n : Int) < (k : Int) ∧ IntKind.i64.wrap ((k : Int) - 16) = (n : Int) := ⟨k - 16, rfl, by omega, by rw [IntWalk.i64_in _ ⟨by omega, by omega⟩]; omega⟩
        rw [f2] at c2; rw [f7] at c7 E7; rw [f15] at c15; rw [f16] at c16 E16
        clear f2 l2 f7 l7 f15 l15 f16 l16
        have h64i : (k : Int) < 80 := by omega
        have h16i : ¬ (k : Int) < 16 := by omega
        have HO := Away.mk hO
        have HL := Away.mk hL
        have HA := Away.mk hA
        have HB := Away.mk hB
        clear hO hL hA hB
        go_wp2_with fail
        go_quiet (fail)
        obtain ⟨wq, hwq⟩ : ∃ wq : World, wr.drewN nq = wq := ⟨_, rfl⟩
        rw [hwq]
        have HO : Away (wq.ownsRow (w.heap.size + 1 + 1) 37 1 (.slice (some ⟨g, 0, none⟩) k cap) k (C .u64 (sch3 b k))) := ⟨by rw [← hwq]; exact HO.out⟩
        have HL : Away (Below w.heap.size w wq) := ⟨by rw [← hwq]; exact below_drewN HL.out nq⟩
        have HA : Away (Row wq w.heap.size 69 (C .u64 s.list)) := ⟨by rw [← hwq]; exact HA.out⟩
        have HB : Away (Row wq (w.heap.size + 1) 69 (C .u64 (Z 8))) := ⟨by rw [← hwq]; exact HB.out⟩
        have c7 : wq.cell? ⟨g, n7, none⟩ = some (.int .u64 (x7 : Int)) := by rw [← hwq]; exact c7
        have c16 : wq.cell? ⟨g, n16, none⟩ = some (.int .u64 (x16 : Int)) := by rw [← hwq]; exact c16
        clear hwq c2 c15
        go_wp2_with fail
        refine (r15a _).mono ?_
        rintro _ w' ⟨rfl, rfl⟩
        go_wp2_with fail
        refine (r15b _).mono ?_
        rintro _ w' ⟨rfl, rfl⟩
        go_wp2_with fail
        refine (r2a _).mono ?_
        rintro _ w' ⟨rfl, rfl⟩
        go_wp2_with fail
        refine (r2b _).mono ?_
        rintro _ w' ⟨rfl, rfl⟩
        go_upto_region 10 with fail
        have hone : (wq.alloc (.cells #[.int .u64 (z : Int)] 37)).drew.cell? ⟨wq.heap.size, 0, none⟩ = some (.int .u64 (z : Int)) := by simp [go_sem]
        have q1 : k + 1 ≤ maxLen := by unfold maxLen; omega
        have q2 : (k + 1) * 8 ≤ 140737488355328 := by omega
        have q3 : w.heap.size + 1 + 1 ≤ ((wq.alloc (.cells #[.int .u64 (z : Int)] 37)).drew).heap.size := by have := HB.out.lt; simp; omega
        have HO1 : Away (((wq.alloc (.cells #[.int .u64 (z : Int)] 37)).drew).ownsRow (w.heap.size + 1 + 1) 37 1 (.slice (some ⟨g, 0, none⟩) k cap) k (C .u64 (sch3 b k))) := ⟨World.ownsRow.drew (HO.out.alloc _)⟩
        have HRA : Away (∀ w4, ((wq.alloc (.cells #[.int .u64 (z : Int)] 37)).drew).grownBy w4 (some g) → Row w4 w.heap.size 69 (C .u64 s.list) ∧ Row w4 (w.heap.size + 1) 69 (C .u64 (Z 8)) ∧ Below w.heap.size w w4) := ⟨fun w4 hg => ⟨((HA.out.alloc _).drew).grown hg (by simp; omega), ((HB.out.alloc _).drew).grown hg (by simp; omega), ((HL.out.alloc HL.out.size _).drew).grown hg (by have := HL.out.size; simp; omega) (fun k hk => by simp only [Option.some.injEq] at hk; omega)⟩⟩
        clear o15a o15b o2a o2b r15a r15b r2a r2b ey2 ey15
        go_region_held3 (fun w' => w'.cell? ⟨g, n7, none⟩ = some (.int .u64 (x7 : Int)) ∧ w'.cell? ⟨g, n16, none⟩ = some (.int .u64 (x16 : Int)))
          (first | exact ⟨c7, c16⟩ | exact ⟨cell_alloc c7 _, cell_alloc c16 _⟩ | exact ⟨f0, f1⟩)
          (first | (refine step_append_one (by rfl) (.tmp 125) (.tmp 141) 100 (by rfl) (w.heap.size + 1 + 1) 37 _ 8 Tryd.underlying100 inf64 rfl _ k _ (by rfl) HO1.out _ _ (.int .u64 (z : Int)) (by rfl) hone rfl q1 q2 q3 ?_; intro v4 w4 ho4 hg4 hk4; have f0 := hk4 g cap rfl _ _ E7.out; have f1 := hk4 g cap rfl _ _ E16.out))
        obtain ⟨hA4, hB4, hb4⟩ := HRA.out _ hg4
        have ho4' : w4.ownsRow (w.heap.size + 1 + 1) 37 1 v4 (k + 1) (C .u64 (sch3 b (k + 1))) := by
          rw [sch3_next b k (by omega), ← C_snoc, HN.out]; exact ho4
        have G1 := Away.mk ho4'
        have G2 := Away.mk hA4
        have G3 := Away.mk hB4
        have G4 := Away.mk hb4
        clear ho4' hA4 hB4 hb4 hcx hv hk4 q1 q2 q3 HRA HO1 HO HL HA HB hone hg4 ho4 f0 f1 c7 c16 E7 E16 w2 w7 w15 w16 b2 b7 b15 b16 e1 e2 e3
        go_wp2
        go_roundw
        case rel => exact ⟨k + 1, by omega, by go_num, G1.out, G2.out, G3.out, G4.out⟩
        case measure => simp [intOf]; omega
      · have HK64 : Away (k = 80) := ⟨by omega⟩
        have hlW : (sch3 b k).length = k := sch3_length b k
        have hWlo := sch3_lo hb k
        have hkE : sch3 b k = sch3 b 80 := by rw [HK64.out]
        obtain ⟨g, cap, rfl, hbg, hgl, hnc, hcm⟩ := own_shape hO (by omega)
        have hWs : SlV wr (.slice (some ⟨g, 0, none⟩) k cap) (C .u64 (sch3 b 80)) := by rw [← hkE]; exact SlV.ofOwn hO
        rw [hkE] at hlW hWlo
        have HBk : Away (blk3 s b = add3 s (stps3 (sch3 b 80) s 80)) := ⟨rfl⟩
        generalize sch3 b 80 = W at *
        have h64i : ¬ (k : Int) < 80 := by omega
        have i5s : (Tryd.prog.info? 69).map (·.size) = some (C .u64 s.list).toArray.size := i8
        have i5l : (Tryd.prog.info? 69).map (·.size) = some (C .u64 s.list).length := i8
        have h55 : (C .u64 (Z 8)).length = (C .u64 s.list).length := rfl
        clear hO hkE hcx hv
        go_wp2_with fail
        refine (refsteps_any _).mono ?_
        rintro _ w1 ⟨rfl, rfl⟩
        have hAlt := hA.lt
        have hBlt := hB.lt
        have hKr := Row.new wr 37 (C .u64 K3L)
        have hA := hA.alloc (.cells (C .u64 K3L).toArray 37)
        have hB := hB.alloc (.cells (C .u64 K3L).toArray 37)
        have hWs := hWs.below ((Below.refl wr.heap.size wr).alloc (Nat.le_refl _) (.cells (C .u64 K3L).toArray 37))
        have hL := (Below.more hL hL.size (.cells (C .u64 K3L).toArray 37)).1
        obtain ⟨gk, hgk⟩ : ∃ gk, wr.heap.size = gk := ⟨_, rfl⟩
        rw [hgk] at hKr hAlt hBlt hgl ⊢
        generalize wr.alloc (.cells (C .u64 K3L).toArray 37) = wk at *
        clear hgk
        have hN1 := Row.new wk 69 (C .u64 (Z 8))
        have hL1 := Below.more hL hL.size (.cells (C .u64 (Z 8)).toArray 69)
        have hA1 := hA.alloc (.cells (C .u64 (Z 8)).toArray 69)
        have hB1 := hB.alloc (.cells (C .u64 (Z 8)).toArray 69)
        have hK1 := hKr.alloc (.cells (C .u64 (Z 8)).toArray 69)
        have hW1 := hWs.below ((Below.refl wk.heap.size wk).alloc (Nat.le_refl _) (.cells (C .u64 (Z 8)).toArray 69))
        go_upto_region 13 with (first | refine wpList_load_row rfl 69 _ rfl _ rfl _ _ _ _ hA Tryd.underlying69 rfl i5s ?_ | refine wpList_alloc_row rfl 69 rfl _ z8 ?_ | (refine wpList_store_R rfl 69 _ _ rfl _ (C .u64 s.list) rfl rfl hN1 i5l h55 (C_allL _ _) ?_; intro w5 hV5 hg5 hz5))
        have hklt := hKr.lt
        have hA5 := hA1.grown hg5 (by simp <;> omega)
        have hB5 := hB1.grown hg5 (by simp <;> omega)
        have hK5 := hK1.grown hg5 (by simp <;> omega)
        have hL5 := below_grown hL1.1 hg5 hL.size hN1.lt
        have hW5 := hW1.grown hg5 (fun b hb => by simp [Value.ownBlock] at hb; subst hb; simp; omega)
        obtain ⟨gv, hgv⟩ : ∃ gv, wk.heap.size = gv := ⟨_, rfl⟩
        simp only [Act.put, List.setIfInBounds_toArray, List.set_cons_zero, List.set_cons_succ]
        rw [hgv] at hV5 hklt ⊢
        clear hN1 hL1 hA1 hB1 hK1 hW1 hg5 hz5 hA hB hKr hL hWs hgv
        go_wp2
        go_loopw [13] (fun i wx => ∃ t : Nat, t ≤ 80 ∧ i = .int .i64 t ∧ Row wx gv 69 (C .u64 (stps3 W s t).list) ∧ Row wx w.heap.size 69 (C .u64 s.list) ∧ Row wx (w.heap.size + 1) 69 (C .u64 (Z 8)) ∧ Row wx gk 37 (C .u64 K3L) ∧ SlV wx (.slice (some ⟨g, 0, none⟩) k cap) (C .u64 W) ∧ Below w.heap.size w wx) (fun i _ => 80 - (intOf i).toNat)
        case atStart => exact ⟨0, Nat.zero_le _, rfl, hV5, hA5, hB5, hK5, hW5, hL5⟩
        case round =>
          clear hV5 hA5 hB5 hK5 hW5 hL5
          obtain ⟨t, ht, rfl, hV, hA, hB, hKr, hWs, hL⟩ := hrel
          have HT : Away (stps3 W s (t + 1) = stp3 t (W.getD t 0) (stps3 W s t)) := ⟨rfl⟩
          obtain ⟨q1, q2, q3, q4, q5, q6, q7, q8⟩ := stps3_ok (ws := W) hs t
          by_cases hlt : t < 80
          · have htk : (t : Int) < (k : Int) := by have := HK64.out; omega
            have hct := hWs.cellAt (C_get .u64 (show t < W.length by omega))
            rw [Nat.zero_add] at hct
            have hkt := hKr.cell t
            rw [C_get .u64 (by rw [K3L_length]; exact hlt), show K3L.getD t 0 = K3 t from rfl] at hkt
            have hkl := K3_lt t
            have hx := hWlo.getD (by decide) t
            generalize W.getD t 0 = x at *
            generalize stps3 W s t = S at *
            obtain ⟨a, b', c, d, e, f, gg, hh⟩ := S
            simp only at *
            have hlti : (t : Int) < 80 := by omega
            have te14 : ∀ w : World, Calls Tryd.prog 62 #[.int .u64 (e : Int), .int .u64 14] w fun r w' => r = .returned (.int .u64 (ror 14 e : Nat)) ∧ w' = w := fun w => (refturn_any e 14 q5 (by decide) w).mono (fun r w' h => ⟨h.1, h.2.symm⟩)
            have te18 : ∀ w : World, Calls Tryd.prog 62 #[.int .u64 (e : Int), .int .u64 18] w fun r w' => r = .returned (.int .u64 (ror 18 e : Nat)) ∧ w' = w := fun w => (refturn_any e 18 q5 (by decide) w).mono (fun r w' h => ⟨h.1, h.2.symm⟩)
            have te41 : ∀ w : World, Calls Tryd.prog 62 #[.int .u64 (e : Int), .int .u64 41] w fun r w' => r = .returned (.int .u64 (ror 41 e : Nat)) ∧ w' = w := fun w => (refturn_any e 41 q5 (by decide) w).mono (fun r w' h => ⟨h.1, h.2.symm⟩)
            have ye1 := u64_xor_nat (ror 14 e) (ror 18 e) (ror_lt q5 _) (ror_lt q5 _)
            have ye2 := u64_xor_nat (ror 14 e ^^^ ror 18 e) (ror 41 e) (xor_lt64 (ror_lt q5 _) (ror_lt q5 _)) (ror_lt q5 _)
            have ye3 : ror 14 e ^^^ ror 18 e ^^^ ror 41 e = tri 14 18 41 e := rfl
            rw [ye3] at ye2
            have yel := tri_lt q5 14 18 41
            clear ye3
            have ta28 : ∀ w : World, Calls Tryd.prog 62 #[.int .u64 (a : Int), .int .u64 28] w fun r w' => r = .returned (.int .u64 (ror 28 a : Nat)) ∧ w' = w := fun w => (refturn_any a 28 q1 (by decide) w).mono (fun r w' h => ⟨h.1, h.2.symm⟩)
            have ta34 : ∀ w : World, Calls Tryd.prog 62 #[.int .u64 (a : Int), .int .u64 34] w fun r w' => r = .returned (.int .u64 (ror 34 a : Nat)) ∧ w' = w := fun w => (refturn_any a 34 q1 (by decide) w).mono (fun r w' h => ⟨h.1, h.2.symm⟩)
            have ta39 : ∀ w : World, Calls Tryd.prog 62 #[.int .u64 (a : Int), .int .u64 39] w fun r w' => r = .returned (.int .u64 (ror 39 a : Nat)) ∧ w' = w := fun w => (refturn_any a 39 q1 (by decide) w).mono (fun r w' h => ⟨h.1, h.2.symm⟩)
            have ya1 := u64_xor_nat (ror 28 a) (ror 34 a) (ror_lt q1 _) (ror_lt q1 _)
            have ya2 := u64_xor_nat (ror 28 a ^^^ ror 34 a) (ror 39 a) (xor_lt64 (ror_lt q1 _) (ror_lt q1 _)) (ror_lt q1 _)
            have ya3 : ror 28 a ^^^ ror 34 a ^^^ ror 39 a = tri 28 34 39 a := rfl
            rw [ya3] at ya2
            have yal := tri_lt q1 28 34 39
            clear ya3
            have o1 := u64_and_nat e f q5 q6
            have o2 : bits .xor .u64 (e : Int) 18446744073709551615 = ((e ^^^ 18446744073709551615 : Nat) : Int) := u64_xor_nat e 18446744073709551615 q5 (by decide)
            have o3 := u64_and_nat (e ^^^ 18446744073709551615) gg (xor_lt64 q5 (by decide)) q7
            have o4 := u64_xor_nat (e &&& f) ((e ^^^ 18446744073709551615) &&& gg) (and_lt64 q5) (and_lt64 (xor_lt64 q5 (by decide)))
            have lc := ch3_lt (f := f) (g := gg) q5
            have ec : (e &&& f) ^^^ ((e ^^^ 18446744073709551615) &&& gg) = ch3 e f gg := rfl
            rw [ec] at o4
            have p1 := u64_and_nat a b' q1 q2
            have p2 := u64_and_nat a c q1 q3
            have p3 := u64_and_nat b' c q2 q3
            have p4 := u64_xor_nat (a &&& b') (a &&& c) (and_lt64 q1) (and_lt64 q1)
            have p5 := u64_xor_nat ((a &&& b') ^^^ (a &&& c)) (b' &&& c) (xor_lt64 (and_lt64 q1) (and_lt64 q1)) (and_lt64 q2)
            have lm := mj3_lt (c := c) q1 q2
            have em : (a &&& b') ^^^ (a &&& c) ^^^ (b' &&& c) = mj3 a b' c := rfl
            rw [em] at p5
            obtain ⟨t1, ht1⟩ : ∃ t1, t1f t x ⟨a, b', c, d, e, f, gg, hh⟩ = t1 := ⟨_, rfl⟩
            obtain ⟨t2, ht2⟩ : ∃ t2, t2f ⟨a, b', c, d, e, f, gg, hh⟩ = t2 := ⟨_, rfl⟩
            have HS : Away (C .u64 (stps3 W s (t + 1)).list = [.int .u64 (IntKind.u64.wrap ((t1 : Int) + t2)), .int .u64 a, .int .u64 b', .int .u64 c, .int .u64 (IntKind.u64.wrap ((d : Int) + t1)), .int .u64 e, .int .u64 f, .int .u64 gg]) := ⟨by rw [HT.out, stp3, ht1, ht2]; simp [C, S8.list, IntKind.wrap_u64]⟩
            simp only [t1f] at ht1
            simp only [t2f] at ht2
            have lt1 : t1 < 18446744073709551616 := by rw [← ht1]; exact mod_lt64 _
            generalize tri 14 18 41 e = ye at *
            generalize tri 28 34 39 a = ya at *
            generalize ch3 e f gg = cc at *
            generalize mj3 a b' c = mm at *
            generalize K3 t = kk at *
            obtain ⟨m1, e1, m2, e2, m3, e3, e4⟩ : ∃ m1 : Nat, IntKind.u64.wrap ((hh : Int) + (ye : Int)) = (m1 : Int) ∧ ∃ m2 : Nat, IntKind.u64.wrap ((m1 : Int) + (cc : Int)) = (m2 : Int) ∧ ∃ m3 : Nat, IntKind.u64.wrap ((m2 : Int) + (kk : Int)) = (m3 : Int) ∧ IntKind.u64.wrap ((m3 : Int) + (x : Int)) = (t1 : Int) := by
              refine ⟨(hh + ye) % 18446744073709551616, by rw [IntKind.wrap_u64]; omega, ((hh + ye) % 18446744073709551616 + cc) % 18446744073709551616, by rw [IntKind.wrap_u64]; omega, (((hh + ye) % 18446744073709551616 + cc) % 18446744073709551616 + kk) % 18446744073709551616, by rw [IntKind.wrap_u64]; omega, by rw [IntKind.wrap_u64]; omega⟩
            have e5 : IntKind.u64.wrap ((ya : Int) + (mm : Int)) = (t2 : Int) := by rw [IntKind.wrap_u64]; omega
            clear ht1 ht2 HT ec em
            have hV : Row wr gv 69 (C .u64 [a, b', c, d, e, f, gg, hh]) := hV
            obtain ⟨c0, c1, c2, c3, c4, c5, c6, c7⟩ := eight_cells (s := ⟨a, b', c, d, e, f, gg, hh⟩) hV
            go_wp2_with fail
            go_quiet (fail)
            clear c0 c1 c2 c3 c4 c5 c6 c7
            obtain ⟨w1, hwq, hV, hA, hB, hKr, hWs, hL⟩ : ∃ wq : World, wr.drewN nq = wq ∧ Row wq gv 69 (C .u64 [a, b', c, d, e, f, gg, hh]) ∧ Row wq w.heap.size 69 (C .u64 s.list) ∧ Row wq (w.heap.size + 1) 69 (C .u64 (Z 8)) ∧ Row wq gk 37 (C .u64 K3L) ∧ SlV wq (.slice (some ⟨g, 0, none⟩) k cap) (C .u64 W) ∧ Below w.heap.size w wq :=
              ⟨_, rfl, hV, hA, hB, hKr, hWs.keep fun _ _ _ => rfl, below_drewN hL nq⟩
            rw [hwq]
            have hct : w1.cell? ⟨g, t, none⟩ = some (.int .u64 (x : Int)) := by rw [← hwq]; exact hct
            have hkt : w1.cell? ⟨gk, t, none⟩ = some (.int .u64 (kk : Int)) := by rw [← hwq]; exact hkt
            clear hwq
            obtain ⟨c0, c1, c2, c3, c4, c5, c6, c7⟩ := eight_cells (s := ⟨a, b', c, d, e, f, gg, hh⟩) hV
            go_wp2_with fail
            go_quiet (first | (go_at_call_of 62 (Value.int IntKind.u64 14); exact Calls.quiet_of_same (te14 _)) | (go_at_call_of 62 (Value.int IntKind.u64 18); exact Calls.quiet_of_same (te18 _)) | (go_at_call_of 62 (Value.int IntKind.u64 41); exact Calls.quiet_of_same (te41 _)))
            clear c0 c1 c2 c3 c4 c5 c6 c7
            obtain ⟨w2, hwq, hV, hA, hB, hKr, hWs, hL⟩ : ∃ wq : World, w1.drewN nq = wq ∧ Row wq gv 69 (C .u64 [a, b', c, d, e, f, gg, hh]) ∧ Row wq w.heap.size 69 (C .u64 s.list) ∧ Row wq (w.heap.size + 1) 69 (C .u64 (Z 8)) ∧ Row wq gk 37 (C .u64 K3L) ∧ SlV wq (.slice (some ⟨g, 0, none⟩) k cap) (C .u64 W) ∧ Below w.heap.size w wq :=
              ⟨_, rfl, hV, hA, hB, hKr, hWs.keep fun _ _ _ => rfl, below_drewN hL nq⟩
            rw [hwq]
            have hct : w2.cell? ⟨g, t, none⟩ = some (.int .u64 (x : Int)) := by rw [← hwq]; exact hct
            have hkt : w2.cell? ⟨gk, t, none⟩ = some (.int .u64 (kk : Int)) := by rw [← hwq]; exact hkt
            clear hwq
            obtain ⟨c0, c1, c2, c3, c4, c5, c6, c7⟩ := eight_cells (s := ⟨a, b', c, d, e, f, gg, hh⟩) hV
            clear o1 o2 o3 o4 e1 e2 e3 e4 te14 te18 te41 ye1 ye2
            go_wp2_with fail
            go_quiet (first | (go_at_call_of 62 (Value.int IntKind.u64 28); exact Calls.quiet_of_same (ta28 _)) | (go_at_call_of 62 (Value.int IntKind.u64 34); exact Calls.quiet_of_same (ta34 _)) | (go_at_call_of 62 (Value.int IntKind.u64 39); exact Calls.quiet_of_same (ta39 _)))
            clear c0 c1 c2 c3 c4 c5 c6 c7
            obtain ⟨w3q, hwq, hV, hA, hB, hKr, hWs, hL⟩ : ∃ wq : World, w2.drewN nq = wq ∧ Row wq gv 69 (C .u64 [a, b', c, d, e, f, gg, hh]) ∧ Row wq w.heap.size 69 (C .u64 s.list) ∧ Row wq (w.heap.size + 1) 69 (C .u64 (Z 8)) ∧ Row wq gk 37 (C .u64 K3L) ∧ SlV wq (.slice (some ⟨g, 0, none⟩) k cap) (C .u64 W) ∧ Below w.heap.size w wq :=
              ⟨_, rfl, hV, hA, hB, hKr, hWs.keep fun _ _ _ => rfl, below_drewN hL nq⟩
            rw [hwq]
            have hct : w3q.cell? ⟨g, t, none⟩ = some (.int .u64 (x : Int)) := by rw [← hwq]; exact hct
            have hkt : w3q.cell? ⟨gk, t, none⟩ = some (.int .u64 (kk : Int)) := by rw [← hwq]; exact hkt
            clear hwq
            obtain ⟨c0, c1, c2, c3, c4, c5, c6, c7⟩ := eight_cells (s := ⟨a, b', c, d, e, f, gg, hh⟩) hV
            clear p1 p2 p3 p4 p5 e5 ta28 ta34 ta39 ya1 ya2
            have hlv := hV.lt
            have h8c : (C .u64 [a, b', c, d, e, f, gg, hh]).length = 8 := rfl
            go_wp2_with (refine wpList_store_R rfl 69 _ _ rfl gv _ rfl rfl hV i8 rfl rfl ?_; intro w7 hV7 hg7 hz7)
            go_roundw
            case rel => exact ⟨t + 1, by omega, by go_num, by rw [HS.out]; exact hV7, hA.grown hg7 (by simp <;> omega), hB.grown hg7 (by simp <;> omega), hKr.grown hg7 (by simp <;> omega), hWs.grown hg7 (fun b hb => by simp [Value.ownBlock] at hb; subst hb; simp; omega), below_grown hL hg7 (by omega) hlv⟩
            case measure => simp [intOf]; omega
          · have HT64 : Away (t = 80) := ⟨by omega⟩
            have hSe : stps3 W s t = stps3 W s 80 := by rw [HT64.out]
            rw [hSe] at hV q1 q2 q3 q4 q5 q6 q7 q8
            have hlti : ¬ (t : Int) < 80 := by omega
            have hSo : (stps3 W s 80).ok := ⟨q1, q2, q3, q4, q5, q6, q7, q8⟩
            generalize stps3 W s 80 = S at *
            clear HT hSe q1 q2 q3 q4 q5 q6 q7 q8
            go_wp2
            go_loopw [18] (fun i wx => ∃ j : Nat, j ≤ 8 ∧ i = .int .i64 j ∧ Row wx gv 69 (C .u64 (mixl s S j)) ∧ Row wx w.heap.size 69 (C .u64 s.list) ∧ Row wx (w.heap.size + 1) 69 (C .u64 (Z 8)) ∧ Below w.heap.size w wx) (fun i _ => 8 - (intOf i).toNat)
            case atStart => exact ⟨0, Nat.zero_le _, rfl, hV, hA, hB, hL⟩
            case round =>
              clear hV hA hB hL hWs hKr
              obtain ⟨j, hj, rfl, hV, hA, hB, hL⟩ := hrel
              by_cases hlt5 : j < 8
              · have cx := hV.cell j
                rw [C_get .u64 (by rw [mixl_length]; omega), mixl_get s S j hlt5] at cx
                have cy := hA.cell j
                rw [C_get .u64 (show j < s.list.length by simp [S8.list]; omega)] at cy
                have HX := Away.mk (mixl_succ s S j hlt5)
                have lx := list_lt hSo j
                have ly := list_lt hs j
                generalize S.list.getD j 0 = x at *
                generalize s.list.getD j 0 = y at *
                obtain ⟨z, hz⟩ : ∃ z, (y + x) % 18446744073709551616 = z := ⟨_, rfl⟩
                have ez : IntKind.u64.wrap ((x : Int) + (y : Int)) = (z : Int) := by rw [IntKind.wrap_u64]; omega
                rw [hz] at HX
                have hj5 : (j : Int) < 8 := by omega
                have hfz := hV.frozen j
                have hlv := hV.lt
                clear hz
                go_upto_region 23 with fail
                refine wp_region_noPanic ?_
                refine wp_region_U (S := fun w' => w'.cell? ⟨gv, j, none⟩ = some (.int .u64 (x : Int)) ∧ w'.cell? ⟨w.heap.size, j, none⟩ = some (.int .u64 (y : Int))) 9 (by kernel_rfl) (⟨cx, cy⟩) (fun hHeld => ?_)
                refine wpAnyU_takeL (i := 0) (v := ?v0q) rfl (by kernel_rfl) (by kernel_rfl) (by kernel_rfl) (by kernel_rfl) (fun _ _ _ h => h) (by rfl) ?h0q (by assumption) ?_
                case h0q => intro w hSw; go_simp <;> with_reducible rfl
                simp only [Act.put, List.setIfInBounds_toArray, List.set_cons_zero, List.set_cons_succ]
                refine wpAnyU_takeL (i := 1) (v := ?v1q) rfl (by kernel_rfl) (by kernel_rfl) (by kernel_rfl) (by kernel_rfl) (fun _ _ _ h => h) (by rfl) ?h1q (by assumption) ?_
                case h1q => intro w hSw; go_simp <;> with_reducible rfl
                simp only [Act.put, List.setIfInBounds_toArray, List.set_cons_zero, List.set_cons_succ]
                refine wpAnyU_takeL (i := 2) (v := ?v2q) rfl (by kernel_rfl) (by kernel_rfl) (by kernel_rfl) (by kernel_rfl) (fun _ _ _ h => h) (by rfl) ?h2q (by assumption) ?_
                case h2q => intro w hSw; go_simp <;> with_reducible rfl
                simp only [Act.put, List.setIfInBounds_toArray, List.set_cons_zero, List.set_cons_succ]
                refine wpAnyU_takeL (i := 3) (v := ?v3q) rfl (by kernel_rfl) (by kernel_rfl) (by kernel_rfl) (by kernel_rfl) (fun _ _ _ h => h) (by rfl) ?h3q (by assumption) ?_
                case h3q => intro w hSw; go_simp <;> with_reducible rfl
                simp only [Act.put, List.setIfInBounds_toArray, List.set_cons_zero, List.set_cons_succ]
                refine wpAnyU_takeL (i := 4) (v := ?v4q) rfl (by kernel_rfl) (by kernel_rfl) (by kernel_rfl) (by kernel_rfl) (fun _ _ _ h => h) (by rfl) ?h4q (by assumption) ?_
                case h4q => intro w hSw; go_simp <;> with_reducible rfl
                simp only [Act.put, List.setIfInBounds_toArray, List.set_cons_zero, List.set_cons_succ]
                refine wpAnyU_takeL (i := 5) (v := ?v5q) rfl (by kernel_rfl) (by kernel_rfl) (by kernel_rfl) (by kernel_rfl) (fun _ _ _ h => h) (by rfl) ?h5q (by assumption) ?_
                case h5q => intro w hSw; go_simp <;> with_reducible rfl
                simp only [Act.put, List.setIfInBounds_toArray, List.set_cons_zero, List.set_cons_succ]
                refine wpAnyU_takeL (i := 6) (v := ?v6q) rfl (by kernel_rfl) (by kernel_rfl) (by kernel_rfl) (by kernel_rfl) (fun _ _ _ h => h) (by rfl) ?h6q (by assumption) ?_
                case h6q => intro w hSw; go_simp <;> with_reducible rfl
                simp only [Act.put, List.setIfInBounds_toArray, List.set_cons_zero, List.set_cons_succ]
                refine wpAnyU_takeL (i := 7) (v := ?v7q) rfl (by kernel_rfl) (by kernel_rfl) (by kernel_rfl) (by kernel_rfl) (fun _ _ _ h => h) (by rfl) ?h7q (by assumption) ?_
                case h7q => intro w hSw; go_simp <;> with_reducible rfl
                simp only [Act.put, List.setIfInBounds_toArray, List.set_cons_zero, List.set_cons_succ]
                refine wpAnyU_takeL (i := 8) (v := ?v8q) rfl (by kernel_rfl) (by kernel_rfl) (by kernel_rfl) (by kernel_rfl) (fun _ _ _ h => h) (by rfl) ?h8q (by assumption) ?_
                case h8q => intro w hSw; go_simp <;> with_reducible rfl
                simp only [Act.put, List.setIfInBounds_toArray, List.set_cons_zero, List.set_cons_succ]
                refine wpAnyU_oneL (i := 9) (by kernel_rfl) rfl (by rfl) (fun K hK => ?_)
                go_simp
                refine hK.out _ _ (fun h => absurd rfl h) (fun hHeld => ?_)
                clear hK K
                refine wpAnyU_done (by kernel_rfl) ?_ _
                refine NoPanic.normal ?_
                have hV7 : Row (wr.setCell ⟨gv, j, none⟩ (.int .u64 (z : Int))) gv 69 (C .u64 (mixl s S (j + 1))) := by rw [← HX.out, C_set]; exact hV.set j _
                have hA7 := hA.other (i := j) (.int .u64 (z : Int)) (show w.heap.size ≠ gv by omega)
                have hB7 := hB.other (i := j) (.int .u64 (z : Int)) (show w.heap.size + 1 ≠ gv by omega)
                have hL7 := hL.setCell (p := ⟨gv, j, none⟩) (by simp; omega) (.int .u64 (z : Int))
                have G1 := Away.mk hV7
                have G2 := Away.mk hA7
                have G3 := Away.mk hB7
                have G4 := Away.mk hL7
                clear hV7 hA7 hB7 hL7 hV hA hB hL cx cy hHeld hfz lx ly ez

                go_wp2
                go_roundw
                case rel => exact ⟨j + 1, by omega, by go_num, G1.out.drew, G2.out.drew, G3.out.drew, G4.out.drew⟩
                case measure => simp [intOf]; omega
              · have HJ5 : Away (j = 8) := ⟨by omega⟩
                rw [HJ5.out, mixl_all] at hV
                have hj5 : ¬ (j : Int) < 8 := by omega
                have hBlt2 := hB.lt
                obtain ⟨T, hT⟩ : ∃ T, add3 s S = T := ⟨_, rfl⟩
                rw [hT] at hV HBk
                have i5T : (Tryd.prog.info? 69).map (·.size) = some (C .u64 T.list).toArray.size := i8
                have i5T' : (Tryd.prog.info? 69).map (·.size) = some (C .u64 T.list).length := i8
                have h5T : (C .u64 (Z 8)).length = (C .u64 T.list).length := rfl
                clear hT
                go_wp2_with (first | refine wpList_load_row rfl 69 _ rfl _ rfl _ _ _ _ hV Tryd.underlying69 rfl i5T ?_ | (refine wpList_store_R rfl 69 _ _ rfl _ (C .u64 T.list) rfl rfl hB i5T' h5T (C_allL _ _) ?_; intro w8 hB8 hg8 hz8))
                exact result_row Tryd.results45 rfl hB8 Tryd.underlying69 rfl i5T' rfl ⟨by rw [HBk.out], below_grown hL hg8 (by omega) hBlt2⟩
end Go.Proofs.YtmbaenodibfedaaDoor.S3
