/-
  Contracts of lettersOf, of a builder's Write, and of Encode, over this seat's translation. Conditions: each as it says.
-/
import Derived.Test.YtaamokcoccjjmaaRadW
namespace Go.Proofs.Ytaamokcoccjjmaa
open Go.RowKit
set_option linter.unusedVariables false

/-- The number of the first k of three bytes. -/
def accB (xs : List Int) : Nat → Int
  | 0 => 0
  | k + 1 => accB xs k * 256 + xs.getD k 0
theorem getD_byt {xs : List Int} (h : Byt xs) (k : Nat) : 0 ≤ xs.getD k 0 ∧ xs.getD k 0 ≤ 255 := by
  by_cases hk : k < xs.length
  · simp [List.getD, List.getElem?_eq_getElem hk]; exact h.get k hk
  · simp [List.getD, List.getElem?_eq_none (Nat.le_of_not_lt hk)]
theorem accB_bd {xs : List Int} (h : Byt xs) (k : Nat) (hk : k ≤ 3) : 0 ≤ accB xs k ∧ (accB xs 0 < 1 ∧ accB xs 1 < 256 ∧ accB xs 2 < 65536 ∧ accB xs 3 < 16777216) := by
  have h0 := getD_byt h 0; have h1 := getD_byt h 1; have h2 := getD_byt h 2
  have hk' : k = 0 ∨ k = 1 ∨ k = 2 ∨ k = 3 := by omega
  rcases hk' with rfl | rfl | rfl | rfl <;> simp only [accB] <;> omega
theorem accB_small {xs : List Int} (h : Byt xs) (k : Nat) (hk : k < 3) : accB xs k < 65536 := by
  have := accB_bd h 3 (by omega)
  have hk' : k = 0 ∨ k = 1 ∨ k = 2 := by omega
  rcases hk' with rfl | rfl | rfl <;> omega
theorem or8 (n x : Int) (h0 : 0 ≤ n) (hn : n < 65536) (x0 : 0 ≤ x) (hx : x ≤ 255) : bits .or .u32 (n * 256) x = n * 256 + x := by
  rw [u32_or _ _ (by omega) (by omega) (by omega) (by omega)]
  obtain ⟨a, rfl⟩ := Int.eq_ofNat_of_zero_le h0
  obtain ⟨b, rfl⟩ := Int.eq_ofNat_of_zero_le x0
  have e : (((a : Int) * 256).toNat) = 2 ^ 8 * a := by omega
  rw [e, Int.toNat_natCast, ← Nat.two_pow_add_eq_or_of_lt (by omega) a]
  omega

/-- A slice's cells, and its block. -/
theorem SlV.cells {w : World} {a : Option Addr} {n cap : Nat} {xs : List Value} (h : SlV w (.slice a n cap) xs) (hp : 0 < xs.length) :
    ∃ b off, a = some ⟨b, off, none⟩ ∧ b < w.heap.size ∧ ∀ i u, xs[i]? = some u → w.cell? ⟨b, off + i, none⟩ = some u := by
  obtain ⟨a', c', e, _, _, _, h4⟩ := h
  simp only [Value.slice.injEq] at e
  obtain ⟨rfl, -, -⟩ := e
  obtain ⟨b, off, rfl, h5⟩ := h4 hp
  refine ⟨b, off, rfl, ?_, h5⟩
  exact World.block_lt_of_cell? w _ (h5 0 _ (List.getElem?_eq_getElem hp))
theorem cell_alloc {w : World} {b o : Nat} {u : Value} (h : w.cell? ⟨b, o, none⟩ = some u) (ob : Obj) : (w.alloc ob).cell? ⟨b, o, none⟩ = some u :=
  (((Below.refl w.heap.size w).alloc (Nat.le_refl _) ob).cell (p := ⟨b, o, none⟩) (World.block_lt_of_cell? w _ h)).trans h
theorem U_getD {xs : List Int} {k : Nat} (h : k < xs.length) : (U xs)[k]? = some (.int .u8 (xs.getD k 0)) := by simp [U, h]

/-- The i-th of the four letters of the number of three bytes. -/
def let4 (N : Int) (n i : Nat) : UInt8 := if i ≤ n then ltr (N / 2 ^ (6 * (3 - i)) % 64) else 61
theorem let4_enc (xs : List Int) (hb : Byt xs) (h1 : 1 ≤ xs.length) (h3 : xs.length ≤ 3) : enc xs = [let4 (accB xs 3) xs.length 0, let4 (accB xs 3) xs.length 1, let4 (accB xs 3) xs.length 2, let4 (accB xs 3) xs.length 3] := by
  match xs with
  | [] => simp at h1
  | [a] =>
    simp only [byt_cons] at hb
    simp [enc, let4, accB]
    constructor <;> congr 1 <;> omega
  | [a, b] =>
    simp only [byt_cons] at hb
    simp [enc, let4, accB]
    refine ⟨?_, ?_, ?_⟩ <;> congr 1 <;> omega
  | [a, b, c] =>
    simp only [byt_cons] at hb
    simp [enc, let4, accB]
    refine ⟨?_, ?_, ?_, ?_⟩ <;> congr 1 <;> omega
  | a :: b :: c :: d :: r => simp at h3
theorem let4_le {N : Int} {n i : Nat} (h : i ≤ n) : let4 N n i = ltr (N / 2 ^ (6 * (3 - i)) % 64) := by rw [let4, if_pos h]
theorem let4_gt {N : Int} {n i : Nat} (h : n < i) : let4 N n i = 61 := by rw [let4, if_neg (by omega)]
abbrev cel (c : UInt8) : Value := .int .u8 (c.toNat : Int)
/-- The four cells behind k rounds. -/
def out4 (e0 e1 e2 e3 : Value) : Nat → Array Value
  | 0 => #[.int .u8 0, .int .u8 0, .int .u8 0, .int .u8 0]
  | 1 => #[e0, .int .u8 0, .int .u8 0, .int .u8 0]
  | 2 => #[e0, e1, .int .u8 0, .int .u8 0]
  | 3 => #[e0, e1, e2, .int .u8 0]
  | _ => #[e0, e1, e2, e3]

theorem lettersOf_any (v : Value) (xs : List Int) (w : World) (hs : SlV w v (U xs)) (hb : Byt xs) (h1 : 1 ≤ xs.length) (h3 : xs.length ≤ 3) :
    Calls Try.prog 18 #[v] w fun e w' => e = .returned (.agg #[cel (let4 (accB xs 3) xs.length 0), cel (let4 (accB xs 3) xs.length 1), cel (let4 (accB xs 3) xs.length 2), cel (let4 (accB xs 3) xs.length 3)]) ∧ Below w.heap.size w w' := by
  obtain ⟨a, cap, hv, hc, hcm⟩ := hs.shapeU rfl
  subst hv
  obtain ⟨b, off, rfl, hbl, hcell⟩ := hs.cells (by rw [U_length]; omega)
  go_enter Try.func18, Try.ntmps18
  go_wp2
  go_loop [3, 7] (fun n i => ∃ k : Nat, k ≤ 3 ∧ i = .int .i64 k ∧ n = .int .u32 (accB xs k)) (fun _ i => 3 - (intOf i).toNat)
  case atStart => exact ⟨0, Nat.zero_le _, rfl, rfl⟩
  case round =>
    obtain ⟨k, hk, rfl, rfl⟩ := hrel
    by_cases hlt : k < 3
    · have hb0 := (accB_bd hb k hk).1
      have hb1 := accB_small hb k hlt
      by_cases hl : k < xs.length
      · have hck := cell_alloc (hcell k _ (U_getD hl))
        have hx := getD_byt hb k
        have HA : Hid (accB xs (k + 1) = accB xs k * 256 + xs.getD k 0) := rfl
        generalize xs.getD k 0 = x at *
        generalize accB xs k = n at *
        have ho := or8 n x hb0 hb1 hx.1 hx.2
        clear hcell
        go_wp2
        go_round
        case rel => exact ⟨k + 1, by omega, by go_num, by rw [unhide HA]⟩
        case measure => simp [intOf]; omega
      · have hl' : decide ((k : Int) < (xs.length : Int)) = false := by simp; omega
        have HA : Hid (accB xs (k + 1) = accB xs k * 256 + xs.getD k 0) := rfl
        have HX : Hid (xs.getD k 0 = 0) := by simp [Hid, List.getD, List.getElem?_eq_none (Nat.le_of_not_lt hl)]
        clear hcell
        go_wp2
        go_round
        case rel => exact ⟨k + 1, by omega, by go_num, by rw [unhide HA, unhide HX]; simp⟩
        case measure => simp [intOf]; omega
    · obtain rfl : k = 3 := by omega
      have hN := accB_bd hb 3 (Nat.le_refl _)
      have hN0 := hN.1
      have hN1 := hN.2.2.2.2
      clear hN hcell
      generalize hNe : accB xs 3 = N at *
      have HE := hide hNe
      clear hNe
      go_wp2
      go_loopw [24] (fun i wr => ∃ k : Nat, k ≤ 4 ∧ i = .int .i64 k ∧ wr = (w.alloc (.cells #[.int .u8 0, .int .u8 0, .int .u8 0, .int .u8 0] 38)).alloc (.cells (out4 (cel (let4 N xs.length 0)) (cel (let4 N xs.length 1)) (cel (let4 N xs.length 2)) (cel (let4 N xs.length 3)) k) 38)) (fun i _ => 4 - (intOf i).toNat)
      case atStart => exact ⟨0, Nat.zero_le _, rfl, rfl⟩
      case round =>
        obtain ⟨k, hk, rfl, rfl⟩ := hrel
        have hk' : k = 0 ∨ k = 1 ∨ k = 2 ∨ k = 3 ∨ k = 4 := by omega
        rcases hk' with rfl | rfl | rfl | rfl | rfl
        · simp only [out4]
          go_wp2
          refine ⟨⟨1, by omega, rfl, ?_⟩, by decide⟩
          rw [abc_get, Int.toNat_of_nonneg (by omega)]
          simp only [cel, let4_le (show 0 ≤ xs.length by omega), Nat.reduceSub, Nat.reduceMul, Int.reducePow]
        · simp only [out4]
          go_wp2
          refine ⟨⟨2, by omega, rfl, ?_⟩, by decide⟩
          rw [abc_get, Int.toNat_of_nonneg (by omega)]
          simp only [cel, let4_le (show 1 ≤ xs.length by omega), Nat.reduceSub, Nat.reduceMul, Int.reducePow]
        · by_cases hl : 2 ≤ xs.length
          · have d : decide ((2 : Int) ≤ (xs.length : Int)) = true := by simp; omega
            simp only [out4]
            go_wp2
            refine ⟨⟨3, by omega, rfl, ?_⟩, by decide⟩
            rw [abc_get, Int.toNat_of_nonneg (by omega)]
            simp only [cel, let4_le hl, Nat.reduceSub, Nat.reduceMul, Int.reducePow]
          · have d : decide ((2 : Int) ≤ (xs.length : Int)) = false := by simp; omega
            simp only [out4]
            go_wp2
            refine ⟨⟨3, by omega, rfl, ?_⟩, by decide⟩
            simp only [cel, let4_gt (Nat.lt_of_not_le hl)]
            rfl
        · by_cases hl : 3 ≤ xs.length
          · have d : decide ((3 : Int) ≤ (xs.length : Int)) = true := by simp; omega
            simp only [out4]
            go_wp2
            refine ⟨⟨4, by omega, rfl, ?_⟩, by decide⟩
            rw [abc_get, Int.toNat_of_nonneg (by omega)]
            simp only [cel, let4_le hl, Nat.reduceSub, Nat.reduceMul, Int.reducePow, Int.ediv_one]
          · have d : decide ((3 : Int) ≤ (xs.length : Int)) = false := by simp; omega
            simp only [out4]
            go_wp2
            refine ⟨⟨4, by omega, rfl, ?_⟩, by decide⟩
            simp only [cel, let4_gt (Nat.lt_of_not_le hl)]
            rfl
        · simp only [out4]
          go_wp2
          exact bodyPost_ret (v := .agg #[cel (let4 N xs.length 0), cel (let4 N xs.length 1), cel (let4 N xs.length 2), cel (let4 N xs.length 3)]) (by simp [results, Try.results18, go_sem]) rfl ⟨by rw [unhide HE], ((Below.refl _ _).alloc (Nat.le_refl _) _).alloc (by simp) _⟩
end Go.Proofs.Ytaamokcoccjjmaa
