/-
  Contracts of the second hash's steps and of its Step, Block and Start, over this seat's translation. Conditions: each as it says; the steps' numbers stand in the package's variable.
-/
import Derived.Test.YtmbaenodibfedaaDoorSh2B
namespace Go.Proofs.YtmbaenodibfedaaDoor.S2
open Go.RowKit
open S1 (or_lt32 and_lt32 xor_lt32 shr_lt32 mod_lt32 wd wd_lt be be8 zs1 pad1 out4 not32)
set_option linter.unusedVariables false

/-- The package's variable holds the steps' numbers. -/
def Tab (w : World) : Prop := ∃ e f, w.heap[0]? = some (.cells (C .u32 K2L).toArray e f)
theorem Tab.pos {w : World} (h : Tab w) : 0 < w.heap.size := by
  obtain ⟨e, f, h⟩ := h
  exact (Array.getElem?_eq_some_iff.1 h).1
theorem Tab.cell {w : World} (h : Tab w) (t : Nat) (ht : t < 64) : w.cell? ⟨0, t, none⟩ = some (.int .u32 (K2 t : Nat)) := by
  obtain ⟨e, f, h⟩ := h
  have := C_get .u32 (xs := K2L) (i := t) (by rw [K2L_length]; exact ht)
  simp only [World.cell?, h]
  simpa [K2] using this
theorem Tab.below {w w' : World} (h : Tab w) (hb : Below w.heap.size w w') : Tab w' := by
  have h0 := h.pos
  obtain ⟨e, f, h⟩ := h
  exact ⟨e, f, (hb.block 0 h0).trans h⟩
theorem Tab.drewN {w : World} (h : Tab w) (n : Nat) : Tab (w.drewN n) := h
theorem Tab.drew {w : World} (h : Tab w) : Tab w.drew := h

theorem eight_cells {w : World} {g : Nat} {e : TypeId} {s : S8} (h : Row w g e (C .u32 s.list)) :
    w.cell? ⟨g, 0, none⟩ = some (.int .u32 (s.a : Int)) ∧ w.cell? ⟨g, 1, none⟩ = some (.int .u32 (s.b : Int)) ∧ w.cell? ⟨g, 2, none⟩ = some (.int .u32 (s.c : Int)) ∧ w.cell? ⟨g, 3, none⟩ = some (.int .u32 (s.d : Int)) ∧ w.cell? ⟨g, 4, none⟩ = some (.int .u32 (s.e : Int)) ∧ w.cell? ⟨g, 5, none⟩ = some (.int .u32 (s.f : Int)) ∧ w.cell? ⟨g, 6, none⟩ = some (.int .u32 (s.g : Int)) ∧ w.cell? ⟨g, 7, none⟩ = some (.int .u32 (s.h : Int)) := by
  refine ⟨?_, ?_, ?_, ?_, ?_, ?_, ?_, ?_⟩ <;> rw [h.cell] <;> rfl
theorem eight_length (s : S8) : (C .u32 s.list).length = 8 := rfl

set_option maxRecDepth 10000 in
set_option maxHeartbeats 800000 in
theorem stepped_any (s : S8) (hs : s.ok) (W : List Nat) (hW : Lo 4294967296 W) (hl : W.length = 64) (w : World) (hT : Tab w) :
    Calls Tryd.prog 68 #[.agg (C .u32 s.list).toArray, .agg (C .u32 W).toArray] w fun e w' => e = .returned (.agg (C .u32 (add2 s (stps2 W s 64)).list).toArray) ∧ Below w.heap.size w w' := by
  have hi64 : (Tryd.prog.info? 108).map (·.size) = some (C .u32 W).toArray.size := by rw [C_size, hl]; exact i64w
  have hA := ((Row.new w 65 (C .u32 s.list)).alloc (.cells (C .u32 W).toArray 108)).alloc (.cells (C .u32 (Z 8)).toArray 65)
  have hB := (Row.newAt (w.alloc (.cells (C .u32 s.list).toArray 65)) (w.heap.size + 1) (by simp) 108 (C .u32 W)).alloc (.cells (C .u32 (Z 8)).toArray 65)
  have hC := Row.newAt ((w.alloc (.cells (C .u32 s.list).toArray 65)).alloc (.cells (C .u32 W).toArray 108)) (w.heap.size + 1 + 1) (by simp) 65 (C .u32 (Z 8))
  have hL0 := Below.more (Below.refl w.heap.size w) (Nat.le_refl _) (.cells (C .u32 s.list).toArray 65)
  have hL1 := Below.more hL0.1 hL0.2 (.cells (C .u32 W).toArray 108)
  have hL := (Below.more hL1.1 hL1.2 (.cells (C .u32 (Z 8)).toArray 65)).1
  clear hL0 hL1
  go_enter Tryd.func68, Tryd.ntmps68
  go_wp2_with (refine wpList_alloc_row rfl 65 rfl _ z8 ?_)
  generalize ((w.alloc (.cells (C .u32 s.list).toArray 65)).alloc (.cells (C .u32 W).toArray 108)).alloc (.cells (C .u32 (Z 8)).toArray 65) = w3 at *
  obtain ⟨c0, c1, c2, c3, c4, c5, c6, c7⟩ := eight_cells hA
  go_quiet (fail)
  obtain ⟨wa, hwa, hAa, hBa, hCa, hLa⟩ : ∃ wa : World, w3.drewN nq = wa ∧ Row wa w.heap.size 65 (C .u32 s.list) ∧ Row wa (w.heap.size + 1) 108 (C .u32 W) ∧ Row wa (w.heap.size + 1 + 1) 65 (C .u32 (Z 8)) ∧ Below w.heap.size w wa :=
    ⟨_, rfl, hA, hB, hC, below_drewN hL nq⟩
  rw [hwa]
  clear hwa hA hB hC hL c0 c1 c2 c3 c4 c5 c6 c7
  obtain ⟨c0, c1, c2, c3, c4, c5, c6, c7⟩ := eight_cells hAa
  go_wp2_with fail
  go_quiet (fail)
  obtain ⟨wb, hwb, hAb, hBb, hCb, hLb⟩ : ∃ wb : World, wa.drewN nq = wb ∧ Row wb w.heap.size 65 (C .u32 s.list) ∧ Row wb (w.heap.size + 1) 108 (C .u32 W) ∧ Row wb (w.heap.size + 1 + 1) 65 (C .u32 (Z 8)) ∧ Below w.heap.size w wb :=
    ⟨_, rfl, hAa, hBa, hCa, below_drewN hLa nq⟩
  rw [hwb]
  clear hwb hAa hBa hCa hLa c0 c1 c2 c3 c4 c5 c6 c7
  go_wp2_with (refine wpList_load_row rfl 108 _ rfl _ rfl _ _ _ _ hBb Tryd.underlying108 rfl hi64 ?_)
  go_loopw [5, 6, 7, 8, 9, 10, 11, 12, 34] (fun va vb vc vd ve vf vg vh i wr => ∃ k : Nat, k ≤ 64 ∧ i = .int .i64 k ∧ va = .int .u32 ((stps2 W s k).a : Nat) ∧ vb = .int .u32 ((stps2 W s k).b : Nat) ∧ vc = .int .u32 ((stps2 W s k).c : Nat) ∧ vd = .int .u32 ((stps2 W s k).d : Nat) ∧ ve = .int .u32 ((stps2 W s k).e : Nat) ∧ vf = .int .u32 ((stps2 W s k).f : Nat) ∧ vg = .int .u32 ((stps2 W s k).g : Nat) ∧ vh = .int .u32 ((stps2 W s k).h : Nat) ∧ Row wr w.heap.size 65 (C .u32 s.list) ∧ Row wr (w.heap.size + 1 + 1) 65 (C .u32 (Z 8)) ∧ Below w.heap.size w wr) (fun _ _ _ _ _ _ _ _ i _ => 64 - (intOf i).toNat)
  case atStart => exact ⟨0, Nat.zero_le _, rfl, rfl, rfl, rfl, rfl, rfl, rfl, rfl, rfl, hAb, hCb, hLb⟩
  case round =>
    clear hAb hBb hCb hLb
    obtain ⟨k, hk, rfl, rfl, rfl, rfl, rfl, rfl, rfl, rfl, rfl, hAn, hCn, hLn⟩ := hrel
    have HT : Away (stps2 W s (k + 1) = stp2 k (W.getD k 0) (stps2 W s k)) := ⟨rfl⟩
    obtain ⟨q1, q2, q3, q4, q5, q6, q7, q8⟩ := stps2_ok (ws := W) hs k
    by_cases hlt : k < 64
    · have hix := fun w => run_index_C (P := Tryd.prog) w (q := .u32) Tryd.underlying108 (by kernel_rfl) i1w W k hlt hl
      have hx := hW.getD (by decide) k
      have hct := (hT.below hLn).cell k hlt
      have hkl := K2_lt k
      have hki : (k : Int) < 64 := by omega
      generalize W.getD k 0 = x at *
      generalize stps2 W s k = S at *
      obtain ⟨a, b, c, d, e, f, g, hh⟩ := S
      simp only at *
      have r1 := turned_any e 6 11 25 q5 (by decide) (by decide) (by decide) (by decide) (by decide) (by decide)
      have r2 := turned_any a 2 13 22 q1 (by decide) (by decide) (by decide) (by decide) (by decide) (by decide)
      have l1 := tri_lt q5 6 11 25
      have l2 := tri_lt q1 2 13 22
      have o1 := u32_and_nat e f q5 q6
      have o2 := not32 e q5
      have sg : IntKind.u32.signed = false := rfl
      have o3 := u32_and_nat (e ^^^ 4294967295) g (xor_lt32 q5 (by decide)) q7
      have o4 := u32_xor_nat (e &&& f) ((e ^^^ 4294967295) &&& g) (and_lt32 q5) (and_lt32 (xor_lt32 q5 (by decide)))
      have lc := ch2_lt (f := f) (g := g) q5
      have ec : (e &&& f) ^^^ ((e ^^^ 4294967295) &&& g) = ch2 e f g := rfl
      rw [ec] at o4
      have p1 := u32_and_nat a b q1 q2
      have p2 := u32_and_nat a c q1 q3
      have p3 := u32_and_nat b c q2 q3
      have p4 := u32_xor_nat (a &&& b) (a &&& c) (and_lt32 q1) (and_lt32 q1)
      have p5 := u32_xor_nat ((a &&& b) ^^^ (a &&& c)) (b &&& c) (xor_lt32 (and_lt32 q1) (and_lt32 q1)) (and_lt32 q2)
      have lm := mj2_lt (c := c) q1 q2
      have em : (a &&& b) ^^^ (a &&& c) ^^^ (b &&& c) = mj2 a b c := rfl
      rw [em] at p5
      obtain ⟨t1, ht1⟩ : ∃ t1, t1f k x ⟨a, b, c, d, e, f, g, hh⟩ = t1 := ⟨_, rfl⟩
      obtain ⟨t2, ht2⟩ : ∃ t2, t2f ⟨a, b, c, d, e, f, g, hh⟩ = t2 := ⟨_, rfl⟩
      have HS : Away (stps2 W s (k + 1) = ⟨(t1 + t2) % 4294967296, a, b, c, (d + t1) % 4294967296, e, f, g⟩) := ⟨by rw [HT.out, stp2, ht1, ht2]⟩
      simp only [t1f] at ht1
      simp only [t2f] at ht2
      have lt1 : t1 < 4294967296 := by rw [← ht1]; exact mod_lt32 _
      generalize tri 6 11 25 e = y1 at *
      generalize tri 2 13 22 a = y2 at *
      generalize ch2 e f g = cc at *
      generalize mj2 a b c = mm at *
      generalize K2 k = kk at *
      obtain ⟨m1, e1, m2, e2, m3, e3, e4⟩ : ∃ m1 : Nat, IntKind.u32.wrap ((hh : Int) + (y1 : Int)) = (m1 : Int) ∧ ∃ m2 : Nat, IntKind.u32.wrap ((m1 : Int) + (cc : Int)) = (m2 : Int) ∧ ∃ m3 : Nat, IntKind.u32.wrap ((m2 : Int) + (kk : Int)) = (m3 : Int) ∧ IntKind.u32.wrap ((m3 : Int) + (x : Int)) = (t1 : Int) := by
        refine ⟨(hh + y1) % 4294967296, by rw [IntKind.wrap_u32']; omega, ((hh + y1) % 4294967296 + cc) % 4294967296, by rw [IntKind.wrap_u32']; omega, (((hh + y1) % 4294967296 + cc) % 4294967296 + kk) % 4294967296, by rw [IntKind.wrap_u32']; omega, by rw [IntKind.wrap_u32']; omega⟩
      have HT2 := Away.mk ht2
      clear ht1 ht2 HT ec em hW
      go_wp2_with fail
      go_quiet (first | (go_at_call 73; exact Calls.quiet_of_same ((r1 _).mono (fun e w' h => ⟨h.1, h.2.symm⟩))))
      clear e1 e2 e3 e4 o1 o2 o3 o4
      go_wp2_with fail
      refine (r2 _).mono ?_
      rintro _ w' ⟨rfl, rfl⟩
      go_wp2
      go_roundw
      case rel =>
        refine ⟨k + 1, by omega, by go_num, ?_, ?_, ?_, ?_, ?_, ?_, ?_, ?_, hAn, hCn, below_drewN hLn nq⟩
        · rw [HS.out]
          have := HT2.out
          congr 1
          simp only
          omega
        · rw [HS.out]
        · rw [HS.out]
        · rw [HS.out]
        · rw [HS.out]
          congr 1
        · rw [HS.out]
        · rw [HS.out]
        · rw [HS.out]
      case measure => simp [intOf]; omega
    · obtain rfl : k = 64 := by omega
      obtain ⟨c0, c1, c2, c3, c4, c5, c6, c7⟩ := eight_cells hAn
      generalize hS : stps2 W s 64 = S at *
      have HS := Away.mk hS
      clear hS HT hi64
      obtain ⟨a, b, c, d, e, f, g, hh⟩ := S
      simp only at *
      have hcs : Away (C .u32 (add2 s ⟨a, b, c, d, e, f, g, hh⟩).list = [.int .u32 (((s.a : Int) + a) % 4294967296), .int .u32 (((s.b : Int) + b) % 4294967296), .int .u32 (((s.c : Int) + c) % 4294967296), .int .u32 (((s.d : Int) + d) % 4294967296), .int .u32 (((s.e : Int) + e) % 4294967296), .int .u32 (((s.f : Int) + f) % 4294967296), .int .u32 (((s.g : Int) + g) % 4294967296), .int .u32 (((s.h : Int) + hh) % 4294967296)]) := ⟨by simp [C, S8.list, add2]⟩
      have hlt4 := hCn.lt
      go_wp2_with (refine wpList_store_R rfl 65 _ _ rfl _ _ rfl rfl hCn i8 rfl rfl ?_; intro w5 hR5 hg5 hz5)
      exact result_row Tryd.results68 rfl hR5 Tryd.underlying65 rfl i8 rfl ⟨by rw [HS.out, hcs.out], below_grown hLn hg5 (by omega) hlt4⟩
end Go.Proofs.YtmbaenodibfedaaDoor.S2
