/-
  Rows, arrays and the document's Less, Lay and Whole, over this seat's translation: what the field's texts say that this seat has. Conditions: each as it says.
-/
import Derived.Test.YtdpahahfcdldcaaDoorFldW
import Derived.Test.YtdpahahfcdldcaaDoorKit8
import Derived.Test.YtdpahahfcdldcaaDoorRows
import Derived.Deep.RegionHeld3
import Derived.Deep.DeepCutAuto
import Derived.Deep.Cut
import Derived.Laws.BitsAllLaws
import Derived.Laws.Externs
import Derived.Test.YtdpahahfcdldcaaDoorKit7
import Derived.Test.YtdpahahfcdldcaaDoorFldV
import Derived.Test.YtdpahahfcdldcaaDoorKit10
import Derived.BigQuiet
import Derived.Test.YtdpahahfcdldcaaDoorFldU
namespace Go.Proofs.YtdpahahfcdldcaaDoor.F
open Go.RowKit
set_option linter.unusedVariables false
set_option maxRecDepth 10000

/-- An array of four words. -/
def el (n : Nat) : Value := .agg (C .u64 (wds n)).toArray
theorem z4 (w : World) : (zeroValue 24).run Tryd.prog w = .ok (.agg (C .u64 (Z 4)).toArray) w := by kernel_rfl
theorem z32 (w : World) : (zeroValue 30).run Tryd.prog w = .ok (.agg (C .u8 (Z 32)).toArray) w := by kernel_rfl
theorem i4 : (Tryd.prog.info? 24).map (·.size) = some 4 := by kernel_rfl
theorem i32 : (Tryd.prog.info? 30).map (·.size) = some 32 := by kernel_rfl
theorem i1w : (Tryd.prog.info? 22).map (·.size) = some 1 := by kernel_rfl
theorem i1b : (Tryd.prog.info? 5).map (·.size) = some 1 := by kernel_rfl
theorem b4 : Tryd.prog.built 24 [] = some (C .u64 (Z 4)).toArray := by kernel_rfl
theorem b32 : Tryd.prog.built 30 [] = some (C .u8 (Z 32)).toArray := by kernel_rfl

/-- The model's entry for math/bits.Sub64. -/
def sub64E : Array Value → Sem Value := fun args => do
  let (x, y, b) ← Extern.MathBitsCarry.three "Sub64" args
  pure (Extern.MathBitsCarry.pair ((x + Extern.MathBitsCarry.m64 - y - b) % Extern.MathBitsCarry.m64) (if x < y + b then 1 else 0))
theorem run_sub64E {P : Program} (x y b : Nat) (hb : b ≤ 1) (w : World) :
    (sub64E #[.int .u64 x, .int .u64 y, .int .u64 b]).run P w = .ok (.tuple #[.int .u64 (((x + 18446744073709551616 - y - b) % 18446744073709551616 : Nat) : Int), .int .u64 ((if x < y + b then 1 else 0 : Nat) : Int)]) w := by
  have : b = 0 ∨ b = 1 := by omega
  rcases this with rfl | rfl <;> rfl
end Go.Proofs.YtdpahahfcdldcaaDoor.F
namespace Go.Proofs.YtdpahahfcdldcaaDoor.F
open Go.RowKit
set_option linter.unusedVariables false
set_option maxRecDepth 10000

/-- Two, three, four blocks made, one behind the other. -/
theorem rows2 (w : World) (t1 t2 : TypeId) (us vs : List Value) : ∃ w4 : World, (w.alloc (.cells us.toArray t1)).alloc (.cells vs.toArray t2) = w4 ∧ Row w4 w.heap.size t1 us ∧ Row w4 (w.heap.size + 1) t2 vs ∧ Below w.heap.size w w4 ∧ w4.heap.size = w.heap.size + 1 + 1 := by
  have l1 := Below.more (Below.refl w.heap.size w) (Nat.le_refl _) (.cells us.toArray t1)
  have l2 := Below.more l1.1 l1.2 (.cells vs.toArray t2)
  exact ⟨_, rfl, (Row.new w t1 us).alloc _, Row.newAt _ _ (by simp) t2 vs, l2.1, by simp⟩
theorem rows3 (w : World) (t1 t2 t3 : TypeId) (us vs xs : List Value) : ∃ w4 : World, ((w.alloc (.cells us.toArray t1)).alloc (.cells vs.toArray t2)).alloc (.cells xs.toArray t3) = w4 ∧ Row w4 w.heap.size t1 us ∧ Row w4 (w.heap.size + 1) t2 vs ∧ Row w4 (w.heap.size + 1 + 1) t3 xs ∧ Below w.heap.size w w4 ∧ w4.heap.size = w.heap.size + 1 + 1 + 1 := by
  obtain ⟨w2, h2, r1, r2, hb, hs⟩ := rows2 w t1 t2 us vs
  rw [h2]
  exact ⟨_, rfl, r1.alloc _, r2.alloc _, Row.newAt _ _ hs.symm t3 xs, hb.alloc (by omega) _, by simp [hs]⟩
theorem rows4 (w : World) (t1 t2 t3 t4 : TypeId) (us vs xs ys : List Value) : ∃ w4 : World, (((w.alloc (.cells us.toArray t1)).alloc (.cells vs.toArray t2)).alloc (.cells xs.toArray t3)).alloc (.cells ys.toArray t4) = w4 ∧ Row w4 w.heap.size t1 us ∧ Row w4 (w.heap.size + 1) t2 vs ∧ Row w4 (w.heap.size + 1 + 1) t3 xs ∧ Row w4 (w.heap.size + 1 + 1 + 1) t4 ys ∧ Below w.heap.size w w4 ∧ w4.heap.size = w.heap.size + 1 + 1 + 1 + 1 := by
  obtain ⟨w2, h2, r1, r2, r3, hb, hs⟩ := rows3 w t1 t2 t3 us vs xs
  rw [h2]
  exact ⟨_, rfl, r1.alloc _, r2.alloc _, r3.alloc _, Row.newAt _ _ hs.symm t4 ys, hb.alloc (by omega) _, by simp [hs]⟩
theorem row_fill {w : World} {g : Nat} {e : TypeId} {q : IntKind} {l : List Nat} {n k : Nat} (h : Row w g e (C q (l ++ Z n))) (hl : l.length = k) (hn : 0 < n) (z : Nat) : Row (w.setCell ⟨g, k, none⟩ (.int q (z : Int))) g e (C q ((l ++ [z]) ++ Z (n - 1))) := by
  subst hl
  obtain ⟨m, rfl⟩ : ∃ m, n = m + 1 := ⟨n - 1, by omega⟩
  have := h.set l.length (.int q (z : Int))
  rw [← C_set, Z, List.replicate_succ, set_at] at this
  simpa [Z] using this

/-- What a function's own array and a value, its results, are read as. -/
theorem result_row2 {P : Program} {fn : Func} {R : Ending → World → Prop} {a : Act} {w : World} {p q : Tmp} {ty : TypeId} (hr : fn.results = #[.cell p ty, .tmp q]) {g : Nat} {us : List Value} {d : TypeDesc} {v : Value}
    (hp : a.tmps.getD p undef = .pointer (some ⟨g, 0, none⟩)) (hq : a.tmps.getD q undef = v) (hg : Row w g ty us) (hu : P.underlying ty = some d) (hd : (match d with | .struct _ | .array _ _ => true | _ => false) = true) (hi : (P.info? ty).map (·.size) = some us.length)
    (hdf : a.defers = []) (h : R (.returned (.tuple #[.agg us.toArray, v])) w) : bodyPost P fn R .ret a w := by
  refine bodyPost_ret ?_ hdf h
  have hp' : a.tmps[p]?.getD undef = .pointer (some ⟨g, 0, none⟩) := by simpa using hp
  have hq' : a.tmps[q]?.getD undef = v := by simpa using hq
  simp [results, hr, hp', hq', asAddr, run_loadVar_row w g ty ty us.toArray (0, 0) d hg hu (by cases d <;> simp_all) (by simpa using hi)]
theorem below_drawn {B : Nat} {w0 w : World} (h : Below B w0 w) : Below B w0 w.drew := ⟨h.os, h.tape, h.output, h.size, h.block⟩
theorem cell_other {w : World} {g h i j : Nat} {u x : Value} (hc : w.cell? ⟨g, j, none⟩ = some x) (hne : g ≠ h) : (w.setCell ⟨h, i, none⟩ u).drew.cell? ⟨g, j, none⟩ = some x := by
  show (w.setCell ⟨h, i, none⟩ u).cell? ⟨g, j, none⟩ = some x
  rw [World.cell?_of_block (w := w) (Below.heap_setCell _ _ _ _ hne)]
  exact hc

end Go.Proofs.YtdpahahfcdldcaaDoor.F
namespace Go.Proofs.YtdpahahfcdldcaaDoor.F
open Go.RowKit
set_option linter.unusedVariables false
set_option maxRecDepth 10000

theorem row_set {w : World} {g : Nat} {e : TypeId} {q : IntKind} {l : List Nat} (h : Row w g e (C q l)) (i z : Nat) : Row (w.setCell ⟨g, i, none⟩ (.int q (z : Int))) g e (C q (l.set i z)) := by
  rw [C_set]; exact h.set i _

theorem built4 (x : Int) : Tryd.prog.built 24 [(0, .int .u64 x)] = some #[.int .u64 x, .int .u64 0, .int .u64 0, .int .u64 0] := by kernel_rfl

end Go.Proofs.YtdpahahfcdldcaaDoor.F
namespace Go.Proofs.YtdpahahfcdldcaaDoor.F
open Go.RowKit
set_option linter.unusedVariables false
set_option maxRecDepth 10000

/-- A package's variable that holds n. -/
def Glob (w : World) (g n : Nat) : Prop := ∃ t f, w.heap[g]? = some (.cells (C .u64 (wds n)).toArray t f)
theorem Glob.below {w w' : World} {g n : Nat} (h : Glob w g n) (hb : Below w.heap.size w w') : Glob w' g n := by
  obtain ⟨t, f, h⟩ := h
  exact ⟨t, f, (hb.block g (Array.getElem?_eq_some_iff.1 h).1).trans h⟩
theorem Glob.grown {w w' : World} {g n k : Nat} (h : Glob w g n) (hg : w.grownBy w' (some k)) (hne : g ≠ k) : Glob w' g n := by
  obtain ⟨t, f, h⟩ := h
  exact ⟨t, f, (hg.block g (Array.getElem?_eq_some_iff.1 h).1 (by simpa using hne)).trans h⟩
theorem Glob.lt {w : World} {g n : Nat} (h : Glob w g n) : g < w.heap.size := by
  obtain ⟨t, f, h⟩ := h
  exact (Array.getElem?_eq_some_iff.1 h).1
theorem Glob.drew {w : World} {g n : Nat} (h : Glob w g n) : Glob w.drew g n := h
theorem e4 (n : Nat) : (C .u64 (wds n)).length = 4 := by rw [C_length, wds_length]
theorem ie4 (n : Nat) : (Tryd.prog.info? 24).map (·.size) = some (C .u64 (wds n)).length := by rw [e4]; exact i4
theorem ze4 (n : Nat) : (C .u64 (Z 4)).length = (C .u64 (wds n)).length := by rw [e4]; rfl
theorem ee4 (m n : Nat) : (C .u64 (wds m)).length = (C .u64 (wds n)).length := by rw [e4, e4]

theorem bit_of {A i : Nat} : A / 18446744073709551616 ^ (i / 64) % 18446744073709551616 / 2 ^ (i % 64) % 2 = A / 2 ^ i % 2 := by
  have hp : (18446744073709551616 : Nat) ^ (i / 64) = 2 ^ (64 * (i / 64)) := by rw [Nat.pow_mul]
  obtain ⟨r, hr⟩ : ∃ r, i % 64 = r := ⟨_, rfl⟩
  have hr64 : r < 64 := by omega
  have hW : (18446744073709551616 : Nat) = 2 ^ r * 2 ^ (64 - r) := by rw [← Nat.pow_add, show r + (64 - r) = 64 by omega]
  rw [hr, hp, hW, Nat.mod_mul_right_div_self, Nat.div_div_eq_div_mul, ← Nat.pow_add, show 64 * (i / 64) + r = i by omega]
  obtain ⟨s, hs⟩ : ∃ s, 64 - r = s + 1 := ⟨63 - r, by omega⟩
  rw [hs, Nat.pow_succ', Nat.mod_mul_right_mod]
/-- A number, less the prime where it is not below it, so often. -/
def rd (A : Nat) : Nat → Nat
  | 0 => A
  | k + 1 => if rd A k < P then rd A k else rd A k - P
theorem rd_le (A k : Nat) : rd A k ≤ A := by
  induction k with
  | zero => exact Nat.le_refl _
  | succ k ih => simp only [rd]; split <;> omega
theorem rd_two {A : Nat} (h : A < 115792089237316195423570985008687907853269984665640564039457584007913129639936) : rd A 2 = A % P := by
  rw [red_once h]
  have e1 : rd A 1 = if A < P then A else A - P := rfl
  show (if rd A 1 < P then rd A 1 else rd A 1 - P) = _
  rw [e1]
  by_cases h1 : A < P
  · simp only [if_pos h1]
  · simp only [if_neg h1]

end Go.Proofs.YtdpahahfcdldcaaDoor.F
namespace Go.Proofs.YtdpahahfcdldcaaDoor.F
open Go.RowKit
set_option linter.unusedVariables false
set_option maxRecDepth 10000

/-- What a call with two arguments and an answer holds. -/
structure H2 (g : Nat) (w0 w : World) (us vs xs : List Value) : Prop where
  r1 : Row w g 24 us
  r2 : Row w (g + 1) 24 vs
  r3 : Row w (g + 1 + 1) 24 xs
  bel : Below g w0 w
  lt : g + 1 + 1 < w.heap.size
section
variable {g : Nat} {w0 w w' : World} {us vs xs : List Value}
theorem H2.begin (w : World) (us vs xs : List Value) : ∃ w4 : World, ((w.alloc (.cells us.toArray 24)).alloc (.cells vs.toArray 24)).alloc (.cells xs.toArray 24) = w4 ∧ H2 w.heap.size w w4 us vs xs := by
  obtain ⟨w4, h4, r1, r2, r3, hL, hS⟩ := rows3 w 24 24 24 us vs xs
  exact ⟨w4, h4, r1, r2, r3, hL, by omega⟩
theorem H2.below (h : H2 g w0 w us vs xs) (hb : Below w.heap.size w w') : H2 g w0 w' us vs xs :=
  ⟨h.r1.belowS hb, h.r2.belowS hb, h.r3.belowS hb, h.bel.trans (hb.mono (by have := h.lt; omega)), by have := h.lt; have := hb.size; omega⟩
theorem H2.drew (h : H2 g w0 w us vs xs) : H2 g w0 w.drew us vs xs := ⟨h.r1, h.r2, h.r3, below_drawn h.bel, h.lt⟩
theorem H2.alloc (h : H2 g w0 w us vs xs) (o : Obj) : H2 g w0 (w.alloc o) us vs xs :=
  ⟨h.r1.alloc o, h.r2.alloc o, h.r3.alloc o, h.bel.alloc (by have := h.lt; omega) o, by have := h.lt; rw [alloc_size]; omega⟩
theorem H2.grown (h : H2 g w0 w us vs xs) {k : Nat} (hg : w.grownBy w' (some k)) (hk : g + 1 + 1 < k) : H2 g w0 w' us vs xs :=
  ⟨h.r1.grown hg (by simp; omega), h.r2.grown hg (by simp; omega), h.r3.grown hg (by simp; omega), h.bel.grown hg (by have := h.lt; omega) (fun k' hk' => by simp only [Option.some.injEq] at hk'; omega), by have := h.lt; have := hg.size; omega⟩
theorem H2.tab (h : H2 w0.heap.size w0 w us vs xs) {g n : Nat} (hT : Glob w0 g n) : Glob w g n := hT.below h.bel
end
/-- What a call with one argument and an answer holds. -/
structure H1 (g : Nat) (w0 w : World) (us xs : List Value) : Prop where
  r1 : Row w g 24 us
  r3 : Row w (g + 1) 24 xs
  bel : Below g w0 w
  lt : g + 1 < w.heap.size
section
variable {g : Nat} {w0 w w' : World} {us xs : List Value}
theorem H1.begin (w : World) (us xs : List Value) : ∃ w4 : World, (w.alloc (.cells us.toArray 24)).alloc (.cells xs.toArray 24) = w4 ∧ H1 w.heap.size w w4 us xs := by
  obtain ⟨w4, h4, r1, r3, hL, hS⟩ := rows2 w 24 24 us xs
  exact ⟨w4, h4, r1, r3, hL, by omega⟩
theorem H1.below (h : H1 g w0 w us xs) (hb : Below w.heap.size w w') : H1 g w0 w' us xs :=
  ⟨h.r1.belowS hb, h.r3.belowS hb, h.bel.trans (hb.mono (by have := h.lt; omega)), by have := h.lt; have := hb.size; omega⟩
theorem H1.drew (h : H1 g w0 w us xs) : H1 g w0 w.drew us xs := ⟨h.r1, h.r3, below_drawn h.bel, h.lt⟩
theorem H1.alloc (h : H1 g w0 w us xs) (o : Obj) : H1 g w0 (w.alloc o) us xs :=
  ⟨h.r1.alloc o, h.r3.alloc o, h.bel.alloc (by have := h.lt; omega) o, by have := h.lt; rw [alloc_size]; omega⟩
theorem H1.grown (h : H1 g w0 w us xs) {k : Nat} (hg : w.grownBy w' (some k)) (hk : g + 1 < k) : H1 g w0 w' us xs :=
  ⟨h.r1.grown hg (by simp; omega), h.r3.grown hg (by simp; omega), h.bel.grown hg (by have := h.lt; omega) (fun k' hk' => by simp only [Option.some.injEq] at hk'; omega), by have := h.lt; have := hg.size; omega⟩
theorem H1.tab (h : H1 w0.heap.size w0 w us xs) {g n : Nat} (hT : Glob w0 g n) : Glob w g n := hT.below h.bel
end

theorem new_row {g : Nat} {w0 w : World} {us vs xs : List Value} (h : H2 g w0 w us vs xs) : ∃ g3 : Nat, w.heap.size = g3 ∧ Row (w.alloc (.cells (C .u64 (Z 4)).toArray 24)) g3 24 (C .u64 (Z 4)) ∧ (g + 1 + 1 < g3 ∧ g3 < (w.alloc (.cells (C .u64 (Z 4)).toArray 24)).heap.size) :=
  ⟨_, rfl, Row.new w _ _, h.lt, by rw [alloc_size]; omega⟩

end Go.Proofs.YtdpahahfcdldcaaDoor.F
namespace Go.Proofs.YtdpahahfcdldcaaDoor.F
open Go.RowKit
set_option linter.unusedVariables false
set_option maxRecDepth 10000

theorem refless_any (A B : Nat) (hA : A < 115792089237316195423570985008687907853269984665640564039457584007913129639936) (hB : B < 115792089237316195423570985008687907853269984665640564039457584007913129639936) (w : World) :
    Calls Tryd.prog 33 #[el A, el B] w fun e w' => e = .returned (.tuple #[el ((A + 115792089237316195423570985008687907853269984665640564039457584007913129639936 - B) % 115792089237316195423570985008687907853269984665640564039457584007913129639936), .bool (decide (A < B))]) ∧ Below w.heap.size w w' := by
  obtain ⟨hM, hBr⟩ := mns_four hA hB
  have hx := wds_lo A
  have hy := wds_lo B
  have lx := wds_length A
  have ly := wds_length B
  unfold el
  rw [← hM]
  have hdec : decide (A < B) = decide ((mns (wds A) (wds B) 4).2 = 1) := by rw [decide_eq_decide]; exact hBr.symm
  rw [hdec]
  clear hM hBr hdec
  generalize wds A = xs at *
  generalize wds B = ys at *
  obtain ⟨w3, h3, r1, r2, r3, hL, hS⟩ := rows3 w 24 24 24 (C .u64 xs) (C .u64 ys) (C .u64 (Z 4))
  go_enter Tryd.func33, Tryd.ntmps33
  go_upto_region 1 with (refine wpList_alloc_row rfl 24 rfl _ z4 ?_)
  try simp only [Act.put, List.setIfInBounds_toArray, List.set_cons_zero, List.set_cons_succ, alloc_size, h3]
  clear h3
  have r4 := Row.newAt w3 _ hS.symm 24 (C .u64 (Z 4))
  replace r1 := r1.alloc (.cells (C .u64 (Z 4)).toArray 24)
  replace r2 := r2.alloc (.cells (C .u64 (Z 4)).toArray 24)
  replace r3 := r3.alloc (.cells (C .u64 (Z 4)).toArray 24)
  replace hL := hL.alloc (by omega) (.cells (C .u64 (Z 4)).toArray 24)
  go_wp2_with (first | refine wpList_alloc_row rfl 24 rfl _ z4 ?_ | refine wpList_build_Z rfl 24 rfl _ b4 ?_ | (refine wpList_store_R rfl 24 _ _ rfl _ (C .u64 (Z 4)) (by first | rfl | (rw [← hS]; rfl)) rfl r4 i4 rfl (C_allL _ _) ?_; intro w5 r5 hg5 hz5))
  replace r1 := r1.grown hg5 (by simp; omega)
  replace r2 := r2.grown hg5 (by simp)
  replace hL := below_grown hL hg5 (by omega) r4.lt
  replace r3 := r3.grown hg5 (by simp)
  clear r4 hg5
  go_loopw [7, 8] (fun b i wr => ∃ k : Nat, k ≤ 4 ∧ i = .int .i64 k ∧ b = .int .u64 ((mns xs ys k).2 : Nat) ∧ Row wr w.heap.size 24 (C .u64 xs) ∧ Row wr (w.heap.size + 1) 24 (C .u64 ys) ∧ Row wr (w.heap.size + 1 + 1) 24 (C .u64 (Z 4)) ∧ Row wr (w.heap.size + 1 + 1 + 1) 24 (C .u64 ((mns xs ys k).1 ++ Z (4 - k))) ∧ Below w.heap.size w wr) (fun _ i _ => 4 - (intOf i).toNat)
  case atStart => exact ⟨0, Nat.zero_le _, rfl, rfl, r1, r2, r3, r5, hL⟩
  case round =>
    clear r1 r2 r3 r5 hL
    obtain ⟨k, hk, rfl, rfl, r1, r2, r3, r4, hL⟩ := hrel
    by_cases hlt : k < 4
    · have c1 := r1.cell k
      rw [C_get .u64 (by omega)] at c1
      have c2 := r2.cell k
      rw [C_get .u64 (by omega)] at c2
      have c4 := r4.cell k
      have hlen := mns_length xs ys k
      rw [C_get .u64 (by simp [hlen, Z_length]; omega)] at c4
      have hf := r4.frozen k
      have b1 := hx.getD (by decide) k
      have b2 := hy.getD (by decide) k
      have b3 := mns_le xs ys k
      have HN : Away (mns xs ys (k + 1) = ((mns xs ys k).1 ++ [(xs.getD k 0 + 18446744073709551616 - ys.getD k 0 - (mns xs ys k).2) % 18446744073709551616], if xs.getD k 0 < ys.getD k 0 + (mns xs ys k).2 then 1 else 0)) := ⟨rfl⟩
      have hki : (k : Int) < 4 := by omega
      generalize xs.getD k 0 = x at *
      generalize ys.getD k 0 = y at *
      generalize mns xs ys k = ms at *
      obtain ⟨m, b⟩ := ms
      simp only at *
      obtain ⟨z, hz⟩ : ∃ z, (x + 18446744073709551616 - y - b) % 18446744073709551616 = z := ⟨_, rfl⟩
      obtain ⟨y1, hy1⟩ : ∃ y1, (x + 18446744073709551616 - y) % 18446744073709551616 = y1 := ⟨_, rfl⟩
      have e1 : IntKind.u64.wrap ((x : Int) - (y : Int)) = (y1 : Int) := by rw [IntKind.wrap_u64]; omega
      have e2 : IntKind.u64.wrap ((y1 : Int) - (b : Int)) = (z : Int) := by rw [IntKind.wrap_u64]; omega
      rw [hz] at HN
      clear hz hy1
      generalize (m ++ Z (4 - k)).getD k 0 = u at *
      go_wp2
      go_region_held3 (fun w' => w'.cell? ⟨w.heap.size, k, none⟩ = some (.int .u64 (x : Int)) ∧ w'.cell? ⟨w.heap.size + 1, k, none⟩ = some (.int .u64 (y : Int)))
        (first | exact ⟨c1, c2⟩ | exact ⟨cell_other c1 (by omega), cell_other c2 (by omega)⟩)
        (fail)
      have q1 := (r1.drew.other (i := k) (.int .u64 (z : Int)) (show w.heap.size ≠ w.heap.size + 1 + 1 + 1 by omega))
      have q2 := (r2.drew.other (i := k) (.int .u64 (z : Int)) (show w.heap.size + 1 ≠ w.heap.size + 1 + 1 + 1 by omega))
      have q3 := (r3.drew.other (i := k) (.int .u64 (z : Int)) (show w.heap.size + 1 + 1 ≠ w.heap.size + 1 + 1 + 1 by omega))
      have q4 := row_fill r4.drew hlen (by omega) z
      rw [show 4 - k - 1 = 4 - (k + 1) by omega] at q4
      have q5 := (below_drawn hL).setCell (p := ⟨w.heap.size + 1 + 1 + 1, k, none⟩) (by simp; omega) (.int .u64 (z : Int))
      replace c1 := cell_other (i := k) (u := .int .u64 (z : Int)) c1 (show w.heap.size ≠ w.heap.size + 1 + 1 + 1 by omega)
      replace c2 := cell_other (i := k) (u := .int .u64 (z : Int)) c2 (show w.heap.size + 1 ≠ w.heap.size + 1 + 1 + 1 by omega)
      clear r1 r2 r3 r4 hL c4 hf e1 e2
      rename_i hHeld
      clear hHeld
      obtain ⟨wn, hwn, q1, q2, q3, q4, q5, c1, c2⟩ : ∃ wn : World, (wr.setCell ⟨w.heap.size + 1 + 1 + 1, k, none⟩ (.int .u64 (z : Int))).drew = wn ∧ Row wn w.heap.size 24 (C .u64 xs) ∧ Row wn (w.heap.size + 1) 24 (C .u64 ys) ∧ Row wn (w.heap.size + 1 + 1) 24 (C .u64 (Z 4)) ∧ Row wn (w.heap.size + 1 + 1 + 1) 24 (C .u64 (m ++ [z] ++ Z (4 - (k + 1)))) ∧ Below w.heap.size w wn ∧ wn.cell? ⟨w.heap.size, k, none⟩ = some (.int .u64 (x : Int)) ∧ wn.cell? ⟨w.heap.size + 1, k, none⟩ = some (.int .u64 (y : Int)) := ⟨_, rfl, q1, q2, q3, q4, q5, c1, c2⟩
      rw [hwn]
      clear hwn
      by_cases h1 : x < y
      · have HN' : Away (mns xs ys (k + 1) = (m ++ [z], 1)) := ⟨by rw [HN.out, if_pos (by omega)]⟩
        have d1 : (x : Int) < (y : Int) := by omega
        clear HN h1 b1 b2 b3
        go_wp2
        go_quiet (fail)
        go_wp2
        go_roundw
        case rel => exact ⟨k + 1, by omega, by go_num, by rw [HN'.out]; rfl, q1, q2, q3, by rw [HN'.out]; exact q4, below_drewN q5 nq⟩
        case measure => simp [intOf]; omega
      · by_cases h2 : x = y
        · have d1 : ¬ (x : Int) < (y : Int) := by omega
          have d2 : (x : Int) = (y : Int) := by omega
          by_cases h3 : b = 1
          · have HN' : Away (mns xs ys (k + 1) = (m ++ [z], 1)) := ⟨by rw [HN.out, if_pos (by omega)]⟩
            have d3 : (b : Int) = 1 := by omega
            clear HN h1 h2 h3 b1 b2 b3
            go_wp2
            go_quiet (fail)
            go_wp2
            go_roundw
            case rel => exact ⟨k + 1, by omega, by go_num, by rw [HN'.out]; rfl, q1, q2, q3, by rw [HN'.out]; exact q4, below_drewN q5 nq⟩
            case measure => simp [intOf]; omega
          · have HN' : Away (mns xs ys (k + 1) = (m ++ [z], 0)) := ⟨by rw [HN.out, if_neg (by omega)]⟩
            have d3 : ¬ (b : Int) = 1 := by omega
            clear HN h1 h2 h3 b1 b2 b3
            go_wp2
            go_quiet (fail)
            go_wp2
            go_roundw
            case rel => exact ⟨k + 1, by omega, by go_num, by rw [HN'.out]; rfl, q1, q2, q3, by rw [HN'.out]; exact q4, below_drewN q5 nq⟩
            case measure => simp [intOf]; omega
        · have HN' : Away (mns xs ys (k + 1) = (m ++ [z], 0)) := ⟨by rw [HN.out, if_neg (by omega)]⟩
          have d1 : decide (x < y) = false := decide_eq_false h1
          have d2 : ((x : Int) == (y : Int)) = false := by rw [beq_eq_false_iff_ne]; omega
          clear HN h1 h2 b1 b2 b3
          go_wp2
          go_quiet (fail)
          go_wp2
          go_roundw
          case rel => exact ⟨k + 1, by omega, by go_num, by rw [HN'.out]; rfl, q1, q2, q3, by rw [HN'.out]; exact q4, below_drewN q5 nq⟩
          case measure => simp [intOf]; omega
    · obtain rfl : k = 4 := by omega
      have h4 := mns_length xs ys 4
      generalize hms : mns xs ys 4 = ms at *
      have HM := Away.mk hms
      clear hms
      obtain ⟨m, b⟩ := ms
      simp only at *
      rw [show m ++ Z (4 - 4) = m by simp [Z]] at r4
      have hi := h4
      rw [← C_length .u64 m] at hi
      have hi4 : (Tryd.prog.info? 24).map (·.size) = some (C .u64 m).length := by rw [hi]; exact i4
      have db : ((b : Int) == 1) = decide (b = 1) := by rw [Bool.eq_iff_iff]; simp; omega
      clear h4
      go_wp2_with (first | refine wpList_load_row rfl 24 _ rfl _ rfl _ _ _ _ r4 Tryd.underlying24 rfl hi4 ?_ | (refine wpList_store_R rfl 24 _ _ rfl _ _ rfl rfl r3 hi4 (by rw [hi]; rfl) (C_allL _ _) ?_; intro w5 hR5 hg5 hz5))
      exact result_row2 Tryd.results33 (v := .bool (decide (b = 1))) rfl rfl hR5 Tryd.underlying24 rfl hi4 rfl ⟨by rw [HM.out], below_grown hL hg5 (by omega) r3.lt⟩
end Go.Proofs.YtdpahahfcdldcaaDoor.F
namespace Go.Proofs.YtdpahahfcdldcaaDoor.F
open Go.RowKit
set_option linter.unusedVariables false
set_option maxRecDepth 10000

theorem bP : Tryd.prog.built 24 [(0, .int .u64 18446744073709551597), (1, .int .u64 18446744073709551615), (2, .int .u64 18446744073709551615), (3, .int .u64 9223372036854775807)] = some (C .u64 (wds P)).toArray := by kernel_rfl
end Go.Proofs.YtdpahahfcdldcaaDoor.F
namespace Go.Proofs.YtdpahahfcdldcaaDoor.F
open Go.RowKit
set_option linter.unusedVariables false
set_option maxRecDepth 10000

theorem wp_value {P : Program} {w : World} {o : Oper} {a : Act} {K : Act → World → Prop} {Q : Exit → Act → World → Prop} (v : Value) (h : (execOp a.eval o).run P w = .ok (.value v) w) (hk : K (a.put o.dst v) w) : o.wp P a w K Q := by
  unfold Oper.wp
  rw [h]
  exact hk

end Go.Proofs.YtdpahahfcdldcaaDoor.F
namespace Go.Proofs.YtdpahahfcdldcaaDoor.F
open Go.RowKit
set_option linter.unusedVariables false
set_option maxRecDepth 10000

end Go.Proofs.YtdpahahfcdldcaaDoor.F
namespace Go.Proofs.YtdpahahfcdldcaaDoor.F
open Go.RowKit
set_option linter.unusedVariables false
set_option maxRecDepth 10000

theorem ready_threeL {P : Program} {md : Region.Mode} {L : List Oper} {Q : Exit → Act → World → Prop} {S : World → Prop} {fuel : Nat} {listed : Array Bool} {a : Act} {w : World} {i j k : Nat} {o p q : Oper} (hr : Region.ready md L.toArray listed = [i, j, k]) (ho : L[i]? = some o) (hp : L[j]? = some p) (hq : L[k]? = some q) (hw : Region.wanted o (yielded L.toArray a.tmps) = true) (hv : Region.wanted p (yielded L.toArray a.tmps) = true) (hu : Region.wanted q (yielded L.toArray a.tmps) = true)
    (h : ∀ K' : Act → World → Prop, Shut (∀ a w, S w → (S w → wpAnyH P md L.toArray Q S fuel (listed.setIfInBounds i true) a w) → K' a w) → Oper.wp P o a w K' Q)
    (h2 : ∀ K' : Act → World → Prop, Shut (∀ a w, S w → (S w → wpAnyH P md L.toArray Q S fuel (listed.setIfInBounds j true) a w) → K' a w) → Oper.wp P p a w K' Q)
    (h3 : ∀ K' : Act → World → Prop, Shut (∀ a w, S w → (S w → wpAnyH P md L.toArray Q S fuel (listed.setIfInBounds k true) a w) → K' a w) → Oper.wp P q a w K' Q) : wpAnyH P md L.toArray Q S (fuel + 1) listed a w :=
  wpAnyH_ready hr (by simp) (AllReadyH.cons (getL ho) (fun K hK => by rw [if_pos hw]; exact h K hK) (AllReadyH.cons (getL hp) (fun K hK => by rw [if_pos hv]; exact h2 K hK) (AllReadyH.cons (getL hq) (fun K hK => by rw [if_pos hu]; exact h3 K hK) AllReadyH.nil)))
theorem zd8 (N : Nat) : (C .u64 (Z 8)).length = (C .u64 (dig 4294967296 8 N)).length := by rw [C_length, C_length, dig_length]; rfl

section
variable {g : Nat} {w0 w w' : World} {us vs xs : List Value}
end

end Go.Proofs.YtdpahahfcdldcaaDoor.F
namespace Go.Proofs.YtdpahahfcdldcaaDoor.F
open Go.RowKit
set_option linter.unusedVariables false
set_option maxRecDepth 10000

/-- The power by the upper k bits of an exponent of 256. -/
def pw (A N k : Nat) : Nat := A ^ (N / 2 ^ (256 - k)) % P
theorem pw_zero {A N : Nat} (h : N < 115792089237316195423570985008687907853269984665640564039457584007913129639936) : pw A N 0 = 1 := by
  unfold pw
  rw [Nat.div_eq_of_lt (by rw [show (2 : Nat) ^ (256 - 0) = 115792089237316195423570985008687907853269984665640564039457584007913129639936 by decide]; exact h), Nat.pow_zero]
  exact Nat.mod_eq_of_lt (by have := P_two; omega)
theorem pw_all (A N : Nat) : pw A N 256 = A ^ N % P := by
  unfold pw
  rw [show 256 - 256 = 0 from rfl, Nat.pow_zero, Nat.div_one]
theorem pw_step {A N k : Nat} (h : k < 256) : pw A N (k + 1) = if N / 2 ^ (255 - k) % 2 = 1 then pw A N k * pw A N k % P * A % P else pw A N k * pw A N k % P := by
  unfold pw
  have e1 : N / 2 ^ (256 - k) = N / 2 ^ (255 - k) / 2 := by rw [Nat.div_div_eq_div_mul, ← Nat.pow_succ, show (255 - k).succ = 256 - k by omega]
  rw [show 256 - (k + 1) = 255 - k by omega, e1]
  generalize N / 2 ^ (255 - k) = m
  have e2 : A ^ (m / 2) % P * (A ^ (m / 2) % P) % P = A ^ (2 * (m / 2)) % P := by rw [← Nat.mul_mod, ← Nat.pow_add, Nat.two_mul]
  rw [e2]
  split
  · rw [Nat.mod_mul_mod, ← Nat.pow_succ]
    congr 2
    omega
  · congr 2
    omega
theorem pw_lt (A N k : Nat) : pw A N k < 115792089237316195423570985008687907853269984665640564039457584007913129639936 := mod_lt_T _

end Go.Proofs.YtdpahahfcdldcaaDoor.F
namespace Go.Proofs.YtdpahahfcdldcaaDoor.F
open Go.RowKit
set_option linter.unusedVariables false
set_option maxRecDepth 10000

theorem eq4 (w : World) (X Y : Nat) (hX : X < 115792089237316195423570985008687907853269984665640564039457584007913129639936) (hY : Y < 115792089237316195423570985008687907853269984665640564039457584007913129639936) : (Op.equalIn 10000 24 (.agg (C .u64 (wds X)).toArray) (.agg (C .u64 (wds Y)).toArray)).run Tryd.prog w = .ok (decide (X = Y)) w := by
  have hi : ∃ i, Tryd.prog.info? 22 = some i := by
    have := i1w
    cases hq : Tryd.prog.info? 22 with
    | none => rw [hq] at this; cases this
    | some i => exact ⟨i, rfl⟩
  rw [run_equal_C w 9998 Tryd.underlying24 (by kernel_rfl) Tryd.underlying22 hi (by kernel_rfl) _ _ (wds_length X) (wds_length Y)]
  congr 1
  rw [decide_eq_decide]
  exact ⟨wds_inj hX hY, fun h => by rw [h]⟩
theorem neq4 (w : World) (X Y : Nat) (hX : X < 115792089237316195423570985008687907853269984665640564039457584007913129639936) (hY : Y < 115792089237316195423570985008687907853269984665640564039457584007913129639936) : (Op.equalIn 10000 24 (.agg (C .u64 (wds X)).toArray) (.agg (C .u64 (wds Y)).toArray)).run Tryd.prog w = .ok (decide (X = Y)) w := eq4 w X Y hX hY
theorem b4z : Tryd.prog.built 24 [] = some (C .u64 (wds 0)).toArray := by kernel_rfl
theorem ze4' (m n : Nat) : (C .u64 (Z 4)).length = (C .u64 (wds n)).length := ze4 n
theorem im_lt : im < 115792089237316195423570985008687907853269984665640564039457584007913129639936 := by decide +kernel
theorem Q8_lt : Q8 < 115792089237316195423570985008687907853269984665640564039457584007913129639936 := by decide +kernel
theorem P2_lt : P - 2 < 115792089237316195423570985008687907853269984665640564039457584007913129639936 := by decide +kernel
theorem evn_sub {r : Nat} (h : r < P) (ho : r % 2 = 1) : (0 % P + (P - r % P)) % P = evn r := by
  unfold evn
  rw [if_pos ho, Nat.zero_mod, Nat.zero_add, Nat.mod_eq_of_lt h, Nat.mod_eq_of_lt (by omega)]
theorem rt_prog (A : Nat) : ((A % P) ^ Q8 % P * ((A % P) ^ Q8 % P) % P = A % P → rt A = (evn ((A % P) ^ Q8 % P), true)) ∧
    (¬ (A % P) ^ Q8 % P * ((A % P) ^ Q8 % P) % P = A % P → (A % P) ^ Q8 % P * im % P * ((A % P) ^ Q8 % P * im % P) % P = A % P → rt A = (evn ((A % P) ^ Q8 % P * im % P), true)) ∧
    (¬ (A % P) ^ Q8 % P * ((A % P) ^ Q8 % P) % P = A % P → ¬ (A % P) ^ Q8 % P * im % P * ((A % P) ^ Q8 % P * im % P) % P = A % P → rt A = (0, false)) := by
  have e : (A % P) ^ Q8 % P = A ^ Q8 % P := (Nat.pow_mod A Q8 P).symm
  rw [e]
  unfold rt
  refine ⟨fun h => by rw [if_pos h], fun h k => by rw [if_neg h, if_pos k], fun h k => by rw [if_neg h, if_neg k]⟩

theorem new_row1 {g : Nat} {w0 w : World} {us xs : List Value} (h : H1 g w0 w us xs) : ∃ g3 : Nat, w.heap.size = g3 ∧ Row (w.alloc (.cells (C .u64 (Z 4)).toArray 24)) g3 24 (C .u64 (Z 4)) ∧ (g + 1 < g3 ∧ g3 < (w.alloc (.cells (C .u64 (Z 4)).toArray 24)).heap.size) :=
  ⟨_, rfl, Row.new w _ _, h.lt, by rw [alloc_size]; omega⟩
theorem H1.set1 {g : Nat} {w0 w w' : World} {us vs xs : List Value} (h : H1 g w0 w us xs) (hr : Row w' g 24 vs) (hg : w.grownBy w' (some g)) (hz : w'.heap.size = w.heap.size) : H1 g w0 w' vs xs :=
  ⟨hr, h.r3.grown hg (by simp), below_grown h.bel hg (Nat.le_refl _) h.r1.lt, by rw [hz]; exact h.lt⟩

end Go.Proofs.YtdpahahfcdldcaaDoor.F
namespace Go.Proofs.YtdpahahfcdldcaaDoor.F
open Go.RowKit
set_option linter.unusedVariables false
set_option maxRecDepth 10000

theorem H2.drewN {g : Nat} {w0 w : World} {us vs xs : List Value} (h : H2 g w0 w us vs xs) (n : Nat) : H2 g w0 (w.drewN n) us vs xs := ⟨h.r1, h.r2, h.r3, below_drewN h.bel n, h.lt⟩
theorem H2.cell {g : Nat} {w0 w : World} {us vs xs : List Value} (h : H2 g w0 w us vs xs) {k i : Nat} (u : Value) (hk : g + 1 + 1 < k) : H2 g w0 (w.setCell ⟨k, i, none⟩ u) us vs xs := h.grown (grown_set w k i u) hk
theorem new_rowT {g : Nat} {w0 w : World} {us vs xs : List Value} (h : H2 g w0 w us vs xs) (t : TypeId) (zs : List Value) : ∃ g3 : Nat, w.heap.size = g3 ∧ Row (w.alloc (.cells zs.toArray t)) g3 t zs ∧ g + 1 + 1 < g3 :=
  ⟨_, rfl, Row.new w _ _, h.lt⟩
theorem over_ok {M c N : Nat} (hM : M < 115792089237316195423570985008687907853269984665640564039457584007913129639936) (hc : c ≤ 38) (h : (M + 115792089237316195423570985008687907853269984665640564039457584007913129639936 * c) % P = N % P) :
    ((M + 38 * c) / 115792089237316195423570985008687907853269984665640564039457584007913129639936 = 1 → ((M + 38 * c) % 115792089237316195423570985008687907853269984665640564039457584007913129639936 + 38) % 115792089237316195423570985008687907853269984665640564039457584007913129639936 % P = N % P) ∧ (¬ (M + 38 * c) / 115792089237316195423570985008687907853269984665640564039457584007913129639936 = 1 → (M + 38 * c) % 115792089237316195423570985008687907853269984665640564039457584007913129639936 % P = N % P) := by
  obtain ⟨h1, h2, h3⟩ := fold_on hM hc h
  rw [fold_mod] at h1
  refine ⟨fun k => ?_, fun k => ?_⟩
  · have h4 := h3 k
    rw [k] at h1
    rw [Nat.mod_eq_of_lt (show (M + 38 * c) % 115792089237316195423570985008687907853269984665640564039457584007913129639936 + 38 < 115792089237316195423570985008687907853269984665640564039457584007913129639936 by omega)]
    exact h1
  · have h5 : (M + 38 * c) / 115792089237316195423570985008687907853269984665640564039457584007913129639936 = 0 := by omega
    rw [h5] at h1
    exact h1
end Go.Proofs.YtdpahahfcdldcaaDoor.F
namespace Go.Proofs.YtdpahahfcdldcaaDoor.F
open Go.RowKit
set_option linter.unusedVariables false
set_option maxRecDepth 10000

theorem b1 : Tryd.prog.built 24 [(0, .int .u64 1)] = some (C .u64 (wds 1)).toArray := by kernel_rfl
theorem b2 : Tryd.prog.built 24 [(0, .int .u64 2)] = some (C .u64 (wds 2)).toArray := by kernel_rfl

theorem P_less : (P + 115792089237316195423570985008687907853269984665640564039457584007913129639936 - 2) % 115792089237316195423570985008687907853269984665640564039457584007913129639936 = P - 2 := by decide +kernel
theorem refless_P2 (w : World) : Calls Tryd.prog 33 #[.agg (C .u64 (wds P)).toArray, .agg (C .u64 (wds 2)).toArray] w fun e w' => e = .returned (.tuple #[.agg (C .u64 (wds (P - 2))).toArray, .bool (decide (P < 2))]) ∧ Below w.heap.size w w' := by
  have := refless_any P 2 P_lt (by decide) w
  rw [P_less] at this
  exact this
end Go.Proofs.YtdpahahfcdldcaaDoor.F
namespace Go.Proofs.YtdpahahfcdldcaaDoor.F
open Go.RowKit
set_option linter.unusedVariables false
set_option maxRecDepth 10000

theorem bQ8 : Tryd.prog.built 24 [(0, .int .u64 18446744073709551614), (1, .int .u64 18446744073709551615), (2, .int .u64 18446744073709551615), (3, .int .u64 1152921504606846975)] = some (C .u64 (wds Q8)).toArray := by kernel_rfl
theorem bQ4 : Tryd.prog.built 24 [(0, .int .u64 18446744073709551611), (1, .int .u64 18446744073709551615), (2, .int .u64 18446744073709551615), (3, .int .u64 2305843009213693951)] = some (C .u64 (wds Q4)).toArray := by kernel_rfl
theorem Q4_lt : Q4 < 115792089237316195423570985008687907853269984665640564039457584007913129639936 := by decide +kernel
end Go.Proofs.YtdpahahfcdldcaaDoor.F
namespace Go.Proofs.YtdpahahfcdldcaaDoor.F
open Go.RowKit
set_option linter.unusedVariables false
set_option maxRecDepth 10000

theorem lay_any (A : Nat) (hN : A < 115792089237316195423570985008687907853269984665640564039457584007913129639936) (w : World) : Calls Tryd.prog 41 #[el A] w fun e w' => e = .returned (.agg (C .u8 (dig 256 32 A)).toArray) ∧ Below w.heap.size w w' := by
  obtain ⟨w2, h2, r1, r2, hL, hS⟩ := rows2 w 24 30 (C .u64 (wds A)) (C .u8 (Z 32))
  have hdl := dig_length 256 32 A
  have hx := wds_lo A
  unfold el
  go_enter Tryd.func41, Tryd.ntmps41
  go_upto_region 1 with (refine wpList_alloc_row rfl 30 rfl _ z32 ?_)
  try simp only [Act.put, List.setIfInBounds_toArray, List.set_cons_zero, List.set_cons_succ, alloc_size, h2]
  clear h2
  have r4 := Row.newAt w2 _ hS.symm 30 (C .u8 (Z 32))
  replace r1 := r1.alloc (.cells (C .u8 (Z 32)).toArray 30)
  replace r2 := r2.alloc (.cells (C .u8 (Z 32)).toArray 30)
  replace hL := hL.alloc (by omega) (.cells (C .u8 (Z 32)).toArray 30)
  go_upto_region 2 with (first | refine wpList_alloc_row rfl 30 rfl _ z32 ?_ | refine wpList_build_Z rfl 30 rfl _ b32 ?_ | (refine wpList_store_R rfl 30 _ _ rfl _ (C .u8 (Z 32)) (by first | rfl | (rw [← hS]; rfl)) rfl r4 i32 rfl (C_allL _ _) ?_; intro w5 r5 hg5 hz5))
  replace r1 := r1.grown hg5 (by simp; omega)
  replace r2 := r2.grown hg5 (by simp)
  replace hL := below_grown hL hg5 (by omega) r4.lt
  clear r4 hg5
  rw [← upto_zero (dig 256 32 A) 32] at r5
  go_wp2
  go_loopw [4] (fun i wr => ∃ k : Nat, k ≤ 32 ∧ i = .int .i64 k ∧ Row wr w.heap.size 24 (C .u64 (wds A)) ∧ Row wr (w.heap.size + 1) 30 (C .u8 (Z 32)) ∧ Row wr (w.heap.size + 1 + 1) 30 (C .u8 (upto (dig 256 32 A) 32 k)) ∧ Below w.heap.size w wr) (fun i _ => 32 - (intOf i).toNat)
  case atStart => exact ⟨0, Nat.zero_le _, rfl, r1, r2, r5, hL⟩
  case round =>
    clear r1 r2 r5 hL
    obtain ⟨k, hk, rfl, r1, r2, r5, hL⟩ := hrel
    by_cases hlt : k < 32
    · have c1 := r1.cell (k / 8)
      rw [C_get .u64 (by rw [wds_length]; omega)] at c1
      have bx := hx.getD (by decide) (k / 8)
      have he := byte_of A k
      rw [← dig_getD hlt, ← wds_getD hN] at he
      have c5 := r5.cell k
      rw [C_get .u8 (by rw [upto_length hdl (by omega)]; omega)] at c5
      have hf := r5.frozen k
      generalize (upto (dig 256 32 A) 32 k).getD k 0 = u at *
      generalize (wds A).getD (k / 8) 0 = x at *
      obtain ⟨q, hq⟩ : ∃ q, k / 8 = q := ⟨_, rfl⟩
      obtain ⟨r, hr⟩ : ∃ r, k % 8 = r := ⟨_, rfl⟩
      rw [hq] at c1
      rw [hr] at he
      obtain ⟨s, hs⟩ : ∃ s, 8 * r = s := ⟨_, rfl⟩
      rw [hs] at he
      obtain ⟨y, hy⟩ : ∃ y, x / 2 ^ s = y := ⟨_, rfl⟩
      rw [hy] at he
      have ey : (x : Int) / 2 ^ s = (y : Int) := by rw [← hy]; simp
      obtain ⟨z, hz⟩ : ∃ z, y % 256 = z := ⟨_, rfl⟩
      have ez : IntKind.u8.wrap (y : Int) = (z : Int) := by rw [IntKind.wrap_u8]; omega
      have ez' : (y : Int) % 256 = (z : Int) := by omega
      rw [hz] at he
      have q5 := upto_row (z := (z : Int)) r5 hdl hlt (by rw [he])
      have q1 := r1.other (i := k) (.int .u8 (z : Int)) (show w.heap.size ≠ w.heap.size + 1 + 1 by omega)
      have q2 := r2.other (i := k) (.int .u8 (z : Int)) (show w.heap.size + 1 ≠ w.heap.size + 1 + 1 by omega)
      have qL := hL.setCell (p := ⟨w.heap.size + 1 + 1, k, none⟩) (by simp; omega) (.int .u8 (z : Int))
      have dq : (k : Int).tdiv 8 = (q : Int) := by rw [Int.tdiv_eq_ediv_of_nonneg (by omega)]; omega
      have dq' : (k : Int) / 8 = (q : Int) := by omega
      have bq : (q : Int) < 4 := by omega
      have dr : (k : Int).tmod 8 = (r : Int) := by rw [Int.tmod_eq_emod_of_nonneg (by omega)]; omega
      have dr' : (k : Int) % 8 = (r : Int) := by omega
      have ds : IntKind.i64.wrap (8 * (r : Int)) = (s : Int) := by rw [IntWalk.i64_in _ ⟨by omega, by omega⟩]; omega
      have ds' : 8 * (r : Int) = (s : Int) := by omega
      have du : IntKind.u64.wrap (s : Int) = (s : Int) := by rw [IntKind.wrap_u64]; omega
      have bs : (s : Int) < 64 := by omega
      have bk : (k : Int) < 32 := by omega
      clear hq hr hs hy bx hz he r1 r2 r5 hL
      go_wp2
      go_roundw
      case rel => exact ⟨k + 1, by omega, by go_num, q1, q2, q5, qL⟩
      case measure => simp [intOf]; omega
    · have HK : Away (k = 32) := ⟨by omega⟩
      have dk : decide ((k : Int) < 32) = false := decide_eq_false (by omega)
      rw [HK.out, upto_all hdl] at r5
      have hi : (C .u8 (dig 256 32 A)).length = 32 := by rw [C_length, hdl]
      have hi8 : (Tryd.prog.info? 30).map (·.size) = some (C .u8 (dig 256 32 A)).length := by rw [hi]; exact i32
      clear hlt hk
      go_wp2_with (first | refine wpList_load_row rfl 30 _ rfl _ rfl _ _ _ _ r5 Tryd.underlying30 rfl hi8 ?_ | (refine wpList_store_R rfl 30 _ _ rfl _ (C .u8 (dig 256 32 A)) rfl rfl r2 hi8 (by rw [hi]; rfl) (C_allL _ _) ?_; intro w7 q7 hg7 hz7))
      exact result_row Tryd.results41 rfl q7 Tryd.underlying30 rfl hi8 rfl ⟨rfl, below_grown hL hg7 (by omega) r2.lt⟩

theorem lay_el (A : Nat) (hN : A < 115792089237316195423570985008687907853269984665640564039457584007913129639936) (w : World) : Calls Tryd.prog 41 #[.agg (C .u64 (wds A)).toArray] w fun e w' => e = .returned (.agg (C .u8 (dig 256 32 A)).toArray) ∧ Below w.heap.size w w' := lay_any A hN w
end Go.Proofs.YtdpahahfcdldcaaDoor.F
namespace Go.Proofs.YtdpahahfcdldcaaDoor.F
open Go.RowKit
set_option linter.unusedVariables false
set_option maxRecDepth 10000

theorem refless_NP (N : Nat) (hN : N < 115792089237316195423570985008687907853269984665640564039457584007913129639936) (w : World) : Calls Tryd.prog 33 #[.agg (C .u64 (wds N)).toArray, .agg (C .u64 (wds P)).toArray] w fun e w' => e = .returned (.tuple #[.agg (C .u64 (wds ((N + 115792089237316195423570985008687907853269984665640564039457584007913129639936 - P) % 115792089237316195423570985008687907853269984665640564039457584007913129639936))).toArray, .bool (decide (N < P))]) ∧ Below w.heap.size w w' := refless_any N P hN P_lt w
theorem val_bytes_lt {b : List Nat} (hb : Lo 256 b) (hl : b.length = 32) : val 256 b < 115792089237316195423570985008687907853269984665640564039457584007913129639936 := by
  have := val_lt (B := 256) (by decide) hb
  rw [hl, B256_pow] at this
  exact this

set_option maxHeartbeats 2000000 in
theorem fwhole_any (v : Value) (b : List Nat) (hb : Lo 256 b) (hl : b.length = 32) (w : World) (hv : SlV w v (C .u8 b)) : Calls Tryd.prog 37 #[v] w fun e w' => e = .returned (.agg (C .u64 (wds (val 256 b))).toArray) ∧ Below w.heap.size w w' := by
  obtain ⟨sa, sc, rfl, hcap1, hcap2⟩ := hv.shp hl
  obtain ⟨gb, off, rfl, hgb⟩ := hv.old (by rw [C_length, hl]; decide)
  have r2 := Row.new w 24 (C .u64 (Z 4))
  have hL := (Below.more (Below.refl w.heap.size w) (Nat.le_refl _) (.cells (C .u64 (Z 4)).toArray 24)).1
  have r4 := Row.newAt (w.alloc (.cells (C .u64 (Z 4)).toArray 24)) (w.heap.size + 1) (by simp) 24 (C .u64 (Z 4))
  replace r2 := r2.alloc (.cells (C .u64 (Z 4)).toArray 24)
  replace hL := hL.alloc (by simp) (.cells (C .u64 (Z 4)).toArray 24)
  generalize hw2 : (w.alloc (.cells (C .u64 (Z 4)).toArray 24)).alloc (.cells (C .u64 (Z 4)).toArray 24) = w2 at *
  obtain ⟨N, hN⟩ : ∃ N, val 256 b = N := ⟨_, rfl⟩
  rw [hN]
  have HN := Away.mk hN
  clear hN
  go_enter Tryd.func37, Tryd.ntmps37
  go_upto_region 1 with (refine wpList_alloc_row rfl 24 rfl _ z4 ?_)
  subst hw2
  go_upto_region 2 with (first | refine wpList_alloc_row rfl 24 rfl _ z4 ?_ | refine wpList_build_Z rfl 24 rfl _ b4 ?_ | (refine wpList_store_R rfl 24 _ _ rfl _ (C .u64 (Z 4)) (by first | rfl | (simp; rfl)) rfl r4 i4 rfl (C_allL _ _) ?_; intro w5 q4 hg5 hz5))
  replace r2 := r2.grown hg5 (by simp)
  replace hL := below_grown hL hg5 (by omega) r4.lt
  clear r4 hg5
  rw [show Z 4 = wds (val 256 (b.take 0)) by rw [List.take_zero]; rfl] at q4
  try simp only [alloc_size]
  go_wp2
  go_loopw [4] (fun i wr => ∃ k : Nat, k ≤ 32 ∧ i = .int .i64 k ∧ Row wr w.heap.size 24 (C .u64 (Z 4)) ∧ Row wr (w.heap.size + 1) 24 (C .u64 (wds (val 256 (b.take k)))) ∧ Below w.heap.size w wr) (fun i _ => 32 - (intOf i).toNat)
  case atStart => exact ⟨0, Nat.zero_le _, rfl, r2, q4, hL⟩
  case round =>
    clear r2 q4 hL
    obtain ⟨k, hk, rfl, r2, q4, hL⟩ := hrel
    by_cases hlt : k < 32
    · have cb := (hv.below hL).cellAt (C_get .u8 (i := k) (by omega))
      have bx := hb.getD (by decide) k
      have hv := val_take_lt (B := 256) (by decide) hb k
      obtain ⟨hs1, hs2, hs3⟩ := word_set hlt hv bx
      rw [← val_take_succ] at hs1
      have lV := wds_length (val 256 (b.take k))
      have hwlo := (wds_lo (val 256 (b.take k))).getD (by decide) (k / 8)
      generalize wds (val 256 (b.take k)) = V at *
      have c4 := q4.cell (k / 8)
      rw [C_get .u64 (by omega)] at c4
      have hf := q4.frozen (k / 8)
      obtain ⟨q, hq⟩ : ∃ q, k / 8 = q := ⟨_, rfl⟩
      obtain ⟨r, hr⟩ : ∃ r, k % 8 = r := ⟨_, rfl⟩
      rw [hq] at c4 hs1 hs2 hf hwlo
      rw [hr] at hs1 hs2
      obtain ⟨s, hs⟩ : ∃ s, 8 * r = s := ⟨_, rfl⟩
      rw [hs] at hs1 hs2
      generalize V.getD q 0 = a at *
      generalize b.getD k 0 = x at *
      have hps : (2 : Nat) ^ s ≤ 2 ^ 56 := Nat.pow_le_pow_right (by decide) (by omega)
      have hxs : x * 2 ^ s < 18446744073709551616 - 2 ^ 56 + 1 := Nat.lt_of_le_of_lt (Nat.mul_le_mul (show x ≤ 255 by omega) hps) (by decide)
      have hor := or_add (x := x) hs2
      have cx : (x : Int) * 2 ^ s = ((x * 2 ^ s : Nat) : Int) := by simp
      have hps2 : (2 : Nat) ^ s < 2 ^ 57 := Nat.lt_of_le_of_lt hps (by decide)
      obtain ⟨m, hm⟩ : ∃ m, x * 2 ^ s = m := ⟨_, rfl⟩
      rw [hm] at hs1 hxs hor cx
      generalize hPS : (2 : Nat) ^ s = ps at *
      have hml : m < 18446744073709551616 := by omega
      have hal : a < 72057594037927936 := by have e := hps; simp at e; omega
      have es : IntKind.u64.wrap ((x : Int) * 2 ^ s) = (m : Int) := by rw [cx, IntKind.wrap_u64]; omega
      obtain ⟨z, hz⟩ : ∃ z, a + m = z := ⟨_, rfl⟩
      rw [hz] at hs1 hor
      have hzl : z < 18446744073709551616 := by simp at hxs; omega
      have eo : bits .or .u64 (a : Int) (m : Int) = (z : Int) := by rw [u64_or_nat a m hwlo hml, hor]
      have ea : IntKind.u64.wrap ((a : Int) + (m : Int)) = (z : Int) := by rw [IntKind.wrap_u64]; omega
      have ex : IntKind.u64.wrap (x : Int) = (x : Int) := by rw [IntKind.wrap_u64]; omega
      have dq : (k : Int).tdiv 8 = (q : Int) := by rw [Int.tdiv_eq_ediv_of_nonneg (by omega)]; omega
      have dq' : (k : Int) / 8 = (q : Int) := by omega
      have bq : (q : Int) < 4 := by omega
      have dr : (k : Int).tmod 8 = (r : Int) := by rw [Int.tmod_eq_emod_of_nonneg (by omega)]; omega
      have dr' : (k : Int) % 8 = (r : Int) := by omega
      have ds : IntKind.i64.wrap (8 * (r : Int)) = (s : Int) := by rw [IntWalk.i64_in _ ⟨by omega, by omega⟩]; omega
      have ds' : 8 * (r : Int) = (s : Int) := by omega
      have du : IntKind.u64.wrap (s : Int) = (s : Int) := by rw [IntKind.wrap_u64]; omega
      have bs : (s : Int) < 64 := by omega
      have bk : (k : Int) < 32 := by omega
      have wq : IntKind.i64.wrap (q : Int) = (q : Int) := by rw [IntWalk.i64_in _ ⟨by omega, by omega⟩]
      have wr' : IntKind.i64.wrap (r : Int) = (r : Int) := by rw [IntWalk.i64_in _ ⟨by omega, by omega⟩]
      have ws' : IntKind.i64.wrap (s : Int) = (s : Int) := by rw [IntWalk.i64_in _ ⟨by omega, by omega⟩]
      have HV := Away.mk hs1

      have m2 := r2.drew.other (i := q) (.int .u64 (z : Int)) (show w.heap.size ≠ w.heap.size + 1 by omega)
      have m4 := row_set q4.drew q z
      have mL := (below_drawn hL).setCell (p := ⟨w.heap.size + 1, q, none⟩) (by simp) (.int .u64 (z : Int))
      have c4d : wr.drew.cell? ⟨w.heap.size + 1, q, none⟩ = some (.int .u64 (a : Int)) := c4
      have hfd : wr.drew.frozen? ⟨w.heap.size + 1, q, none⟩ = false := hf
      have cbd : wr.drew.cell? ⟨gb, off + k, none⟩ = some (.int .u8 (x : Int)) := cb
      clear hs1 hs2 hs3 hv bx hq hr hs hps hps2 hxs hor cx hm hPS hml hal hz hzl hwlo r2 q4 hL lV c4 hf cb
      go_wp2
      refine wp_region_noPanic ?_
      refine wp_region_U (S := fun w' => w'.cell? ⟨w.heap.size + 1, q, none⟩ = some (.int .u64 (a : Int)) ∧ w'.cell? ⟨gb, off + k, none⟩ = some (.int .u8 (x : Int))) 18 (by kernel_rfl) (⟨c4d, cbd⟩) (fun hHeld => ?_)
      refine wpAnyU_takeL (i := 0) (v := ?v0s) rfl (by kernel_rfl) (by kernel_rfl) (by kernel_rfl) (by kernel_rfl) (fun _ _ _ h => h) (by rfl) ?h0s (by assumption) ?_
      case h0s => intro w hSw; obtain ⟨hS1, hS2⟩ := hSw; go_simp <;> with_reducible rfl
      simp only [Act.put, List.setIfInBounds_toArray, List.set_cons_zero, List.set_cons_succ]
      refine wpAnyU_takeL (i := 1) (v := ?v1s) rfl (by kernel_rfl) (by kernel_rfl) (by kernel_rfl) (by kernel_rfl) (fun _ _ _ h => h) (by rfl) ?h1s (by assumption) ?_
      case h1s => intro w hSw; obtain ⟨hS1, hS2⟩ := hSw; go_simp <;> with_reducible rfl
      simp only [Act.put, List.setIfInBounds_toArray, List.set_cons_zero, List.set_cons_succ]
      refine wpAnyU_takeL (i := 2) (v := ?v2s) rfl (by kernel_rfl) (by kernel_rfl) (by kernel_rfl) (by kernel_rfl) (fun _ _ _ h => h) (by rfl) ?h2s (by assumption) ?_
      case h2s => intro w hSw; obtain ⟨hS1, hS2⟩ := hSw; go_simp <;> with_reducible rfl
      simp only [Act.put, List.setIfInBounds_toArray, List.set_cons_zero, List.set_cons_succ]
      refine wpAnyU_takeL (i := 3) (v := ?v3s) rfl (by kernel_rfl) (by kernel_rfl) (by kernel_rfl) (by kernel_rfl) (fun _ _ _ h => h) (by rfl) ?h3s (by assumption) ?_
      case h3s => intro w hSw; obtain ⟨hS1, hS2⟩ := hSw; go_simp <;> with_reducible rfl
      simp only [Act.put, List.setIfInBounds_toArray, List.set_cons_zero, List.set_cons_succ]
      refine wpAnyU_takeL (i := 4) (v := ?v4s) rfl (by kernel_rfl) (by kernel_rfl) (by kernel_rfl) (by kernel_rfl) (fun _ _ _ h => h) (by rfl) ?h4s (by assumption) ?_
      case h4s => intro w hSw; obtain ⟨hS1, hS2⟩ := hSw; go_simp <;> with_reducible rfl
      simp only [Act.put, List.setIfInBounds_toArray, List.set_cons_zero, List.set_cons_succ]
      refine wpAnyU_takeL (i := 5) (v := ?v5s) rfl (by kernel_rfl) (by kernel_rfl) (by kernel_rfl) (by kernel_rfl) (fun _ _ _ h => h) (by rfl) ?h5s (by assumption) ?_
      case h5s => intro w hSw; obtain ⟨hS1, hS2⟩ := hSw; go_simp <;> with_reducible rfl
      simp only [Act.put, List.setIfInBounds_toArray, List.set_cons_zero, List.set_cons_succ]
      refine wpAnyU_takeL (i := 6) (v := ?v6s) rfl (by kernel_rfl) (by kernel_rfl) (by kernel_rfl) (by kernel_rfl) (fun _ _ _ h => h) (by rfl) ?h6s (by assumption) ?_
      case h6s => intro w hSw; obtain ⟨hS1, hS2⟩ := hSw; go_simp <;> with_reducible rfl
      simp only [Act.put, List.setIfInBounds_toArray, List.set_cons_zero, List.set_cons_succ]
      refine wpAnyU_takeL (i := 7) (v := ?v7s) rfl (by kernel_rfl) (by kernel_rfl) (by kernel_rfl) (by kernel_rfl) (fun _ _ _ h => h) (by rfl) ?h7s (by assumption) ?_
      case h7s => intro w hSw; obtain ⟨hS1, hS2⟩ := hSw; go_simp <;> with_reducible rfl
      simp only [Act.put, List.setIfInBounds_toArray, List.set_cons_zero, List.set_cons_succ]
      refine wpAnyU_takeL (i := 8) (v := ?v8s) rfl (by kernel_rfl) (by kernel_rfl) (by kernel_rfl) (by kernel_rfl) (fun _ _ _ h => h) (by rfl) ?h8s (by assumption) ?_
      case h8s => intro w hSw; obtain ⟨hS1, hS2⟩ := hSw; go_simp <;> with_reducible rfl
      simp only [Act.put, List.setIfInBounds_toArray, List.set_cons_zero, List.set_cons_succ]
      refine wpAnyU_takeL (i := 9) (v := ?v9s) rfl (by kernel_rfl) (by kernel_rfl) (by kernel_rfl) (by kernel_rfl) (fun _ _ _ h => h) (by rfl) ?h9s (by assumption) ?_
      case h9s => intro w hSw; obtain ⟨hS1, hS2⟩ := hSw; go_simp <;> with_reducible rfl
      simp only [Act.put, List.setIfInBounds_toArray, List.set_cons_zero, List.set_cons_succ]
      refine wpAnyU_takeL (i := 10) (v := ?v10s) rfl (by kernel_rfl) (by kernel_rfl) (by kernel_rfl) (by kernel_rfl) (fun _ _ _ h => h) (by rfl) ?h10s (by assumption) ?_
      case h10s => intro w hSw; obtain ⟨hS1, hS2⟩ := hSw; go_simp <;> with_reducible rfl
      simp only [Act.put, List.setIfInBounds_toArray, List.set_cons_zero, List.set_cons_succ]
      refine wpAnyU_takeL (i := 11) (v := ?v11s) rfl (by kernel_rfl) (by kernel_rfl) (by kernel_rfl) (by kernel_rfl) (fun _ _ _ h => h) (by rfl) ?h11s (by assumption) ?_
      case h11s => intro w hSw; obtain ⟨hS1, hS2⟩ := hSw; go_simp <;> with_reducible rfl
      simp only [Act.put, List.setIfInBounds_toArray, List.set_cons_zero, List.set_cons_succ]
      refine wpAnyU_takeL (i := 12) (v := ?v12s) rfl (by kernel_rfl) (by kernel_rfl) (by kernel_rfl) (by kernel_rfl) (fun _ _ _ h => h) (by rfl) ?h12s (by assumption) ?_
      case h12s => intro w hSw; obtain ⟨hS1, hS2⟩ := hSw; go_simp <;> with_reducible rfl
      simp only [Act.put, List.setIfInBounds_toArray, List.set_cons_zero, List.set_cons_succ]
      refine wpAnyU_takeL (i := 13) (v := ?v13s) rfl (by kernel_rfl) (by kernel_rfl) (by kernel_rfl) (by kernel_rfl) (fun _ _ _ h => h) (by rfl) ?h13s (by assumption) ?_
      case h13s => intro w hSw; obtain ⟨hS1, hS2⟩ := hSw; go_simp <;> with_reducible rfl
      simp only [Act.put, List.setIfInBounds_toArray, List.set_cons_zero, List.set_cons_succ]
      refine wpAnyU_takeL (i := 14) (v := ?v14s) rfl (by kernel_rfl) (by kernel_rfl) (by kernel_rfl) (by kernel_rfl) (fun _ _ _ h => h) (by rfl) ?h14s (by assumption) ?_
      case h14s => intro w hSw; obtain ⟨hS1, hS2⟩ := hSw; go_simp <;> with_reducible rfl
      simp only [Act.put, List.setIfInBounds_toArray, List.set_cons_zero, List.set_cons_succ]
      refine wpAnyU_takeL (i := 15) (v := ?v15s) rfl (by kernel_rfl) (by kernel_rfl) (by kernel_rfl) (by kernel_rfl) (fun _ _ _ h => h) (by rfl) ?h15s (by assumption) ?_
      case h15s => intro w hSw; obtain ⟨hS1, hS2⟩ := hSw; go_simp <;> with_reducible rfl
      simp only [Act.put, List.setIfInBounds_toArray, List.set_cons_zero, List.set_cons_succ]
      refine wpAnyU_takeL (i := 16) (v := ?v16s) rfl (by kernel_rfl) (by kernel_rfl) (by kernel_rfl) (by kernel_rfl) (fun _ _ _ h => h) (by rfl) ?h16s (by assumption) ?_
      case h16s => intro w hSw; obtain ⟨hS1, hS2⟩ := hSw; go_simp <;> with_reducible rfl
      simp only [Act.put, List.setIfInBounds_toArray, List.set_cons_zero, List.set_cons_succ]
      refine wpAnyU_takeL (i := 17) (v := ?v17s) rfl (by kernel_rfl) (by kernel_rfl) (by kernel_rfl) (by kernel_rfl) (fun _ _ _ h => h) (by rfl) ?h17s (by assumption) ?_
      case h17s => intro w hSw; obtain ⟨hS1, hS2⟩ := hSw; go_simp <;> with_reducible rfl
      simp only [Act.put, List.setIfInBounds_toArray, List.set_cons_zero, List.set_cons_succ]
      refine wpAnyU_oneL (i := 18) (by kernel_rfl) rfl (by rfl) (fun K hK => ?_)
      go_simp
      refine hK.out _ _ (fun hz => absurd rfl hz) (fun hHeld => ?_)
      clear hK K
      refine wpAnyU_done (by kernel_rfl) ?_ _
      refine NoPanic.normal ?_

      clear c4d hfd cbd
      go_wp2
      go_roundw
      case rel => exact ⟨k + 1, by omega, by go_num, m2, by rw [← HV.out]; exact m4, mL⟩
      case measure => simp [intOf]; omega
    · have HK : Away (k = 32) := ⟨by omega⟩
      have dk : decide ((k : Int) < 32) = false := decide_eq_false (by omega)
      rw [HK.out, List.take_of_length_le (Nat.le_of_eq hl), HN.out] at q4
      clear hlt hk hv
      go_wp2_with (first | refine wpList_load_row rfl 24 _ rfl _ rfl _ _ _ _ q4 Tryd.underlying24 rfl (ie4 _) ?_ | (refine wpList_store_R rfl 24 _ _ rfl _ (C .u64 (wds N)) rfl rfl r2 (ie4 _) (ze4 _) (C_allL _ _) ?_; intro w7 q7 hg7 hz7))
      exact result_row Tryd.results37 rfl q7 Tryd.underlying24 rfl (ie4 _) rfl ⟨rfl, below_grown hL hg7 (by omega) r2.lt⟩

theorem new_read {w w0 : World} {g g4 : Nat} {us vs : List Value} {t : TypeId} (q4 : Row w g4 24 us) (h3 : Row w g t vs) (hL : Below w0.heap.size w0 w) (hsz : g4 < w.heap.size) : ∃ g5 : Nat, w.heap.size = g5 ∧ Row (w.alloc (.cells (C .u64 (Z 4)).toArray 24)) g5 24 (C .u64 (Z 4)) ∧ g4 < g5 ∧ g < g5 ∧ Row (w.alloc (.cells (C .u64 (Z 4)).toArray 24)) g4 24 us ∧ Row (w.alloc (.cells (C .u64 (Z 4)).toArray 24)) g t vs ∧ Below w0.heap.size w0 (w.alloc (.cells (C .u64 (Z 4)).toArray 24)) ∧ g4 < (w.alloc (.cells (C .u64 (Z 4)).toArray 24)).heap.size :=
  ⟨_, rfl, Row.new w _ _, hsz, h3.lt, q4.alloc _, h3.alloc _, hL.alloc hL.size _, by rw [alloc_size]; omega⟩

end Go.Proofs.YtdpahahfcdldcaaDoor.F
