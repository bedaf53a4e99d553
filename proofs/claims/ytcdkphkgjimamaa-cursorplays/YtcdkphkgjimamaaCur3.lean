/-
  Contracts of the document's own answers (affiantref01) and of the cursor's methods for every argument, over this seat's translation. Conditions: at most 1000000 bytes.
-/
import Derived.Test.YtcdkphkgjimamaaCur2
namespace Go.Proofs.Ytcdkphkgjimamaa
open Go.RowKit
set_option linter.unusedVariables false

theorem grown_fro {w w' : World} {row : Option Nat} (hg : w.grownBy w' row) {a : Addr} (h : a.block < w.heap.size) (hne : some a.block ≠ row) : w'.frozen? a = w.frozen? a := World.frozen?_of_block (hg.block a.block h hne)
theorem SlV.drewd {w : World} {v : Value} {xs : List Value} (h : SlV w v xs) : SlV w.drew v xs := h.keep fun _ _ _ => rfl
theorem below2 (w : World) (o p : Obj) : Below w.heap.size w ((w.alloc o).alloc p) := ((Below.refl _ _).alloc (Nat.le_refl _) _).alloc (by simp) _

theorem below3 (w : World) (o p q : Obj) : Below w.heap.size w (((w.alloc o).alloc p).alloc q) := (below2 w o p).alloc (by simp; omega) _

theorem ref_facts {w w1 : World} {p q r s : Value} (hg1 : (((w.alloc (.cells #[p, q] 28)).alloc (.cells #[r, s] 28)).alloc (.cells #[] 5)).grownBy w1 (Value.slice (some ⟨w.heap.size + 1 + 1, 0, none⟩) 0 0).ownBlock) :
    Below w.heap.size w w1 ∧ w.heap.size + 3 ≤ w1.heap.size ∧ w1.cell? ⟨w.heap.size, 0, none⟩ = some p ∧ w1.cell? ⟨w.heap.size, 1, none⟩ = some q ∧ w1.cell? ⟨w.heap.size + 1, 0, none⟩ = some r ∧ w1.cell? ⟨w.heap.size + 1, 1, none⟩ = some s ∧
      w1.frozen? ⟨w.heap.size, 1, none⟩ = false ∧ w1.frozen? ⟨w.heap.size + 1, 0, none⟩ = false ∧ w1.frozen? ⟨w.heap.size + 1, 1, none⟩ = false := by
  have hz := hg1.size
  simp at hz
  refine ⟨(below3 _ _ _ _).grown hg1 (by simp; omega) (by simp [Value.ownBlock]; omega), by omega, ?_, ?_, ?_, ?_, ?_, ?_, ?_⟩
  · exact hg1.cell (by simp [go_sem]) (by simp [Value.ownBlock]; omega)
  · exact hg1.cell (by simp [go_sem]) (by simp [Value.ownBlock]; omega)
  · exact hg1.cell (by simp [go_sem]) (by simp [Value.ownBlock])
  · exact hg1.cell (by simp [go_sem]) (by simp [Value.ownBlock])
  · rw [grown_fro hg1 (by simp; omega) (by simp [Value.ownBlock]; omega)]; simp [go_sem]
  · rw [grown_fro hg1 (by simp) (by simp [Value.ownBlock])]; simp [go_sem]
  · rw [grown_fro hg1 (by simp) (by simp [Value.ownBlock])]; simp [go_sem]

theorem ref_facts2 {w w1 : World} {p q r s : Value} (hb : Below ((w.alloc (.cells #[p, q] 28)).alloc (.cells #[r, s] 28)).heap.size ((w.alloc (.cells #[p, q] 28)).alloc (.cells #[r, s] 28)) w1) :
    Below w.heap.size w w1 ∧ w.heap.size + 2 ≤ w1.heap.size ∧ w1.cell? ⟨w.heap.size, 0, none⟩ = some p ∧ w1.cell? ⟨w.heap.size, 1, none⟩ = some q ∧ w1.cell? ⟨w.heap.size + 1, 0, none⟩ = some r ∧ w1.cell? ⟨w.heap.size + 1, 1, none⟩ = some s ∧
      w1.frozen? ⟨w.heap.size, 0, none⟩ = false ∧ w1.frozen? ⟨w.heap.size, 1, none⟩ = false ∧ w1.frozen? ⟨w.heap.size + 1, 0, none⟩ = false ∧ w1.frozen? ⟨w.heap.size + 1, 1, none⟩ = false := by
  have hz := hb.size
  simp at hz
  refine ⟨(below2 _ _ _).trans (hb.mono (by simp; omega)), by omega, ?_, ?_, ?_, ?_, ?_, ?_, ?_, ?_⟩
  · rw [hb.cell (by simp; omega)]; simp [go_sem]
  · rw [hb.cell (by simp; omega)]; simp [go_sem]
  · rw [hb.cell (by simp)]; simp [go_sem]
  · rw [hb.cell (by simp)]; simp [go_sem]
  · rw [hb.frozen (by simp; omega)]; simp [go_sem]
  · rw [hb.frozen (by simp; omega)]; simp [go_sem]
  · rw [hb.frozen (by simp)]; simp [go_sem]
  · rw [hb.frozen (by simp)]; simp [go_sem]

set_option maxHeartbeats 400000 in
theorem reftake_any (bv : Value) (xs : List Int) (k : Nat) (n : Int) (w : World) (hs : SlV w bv (U xs)) (hk : k ≤ xs.length) (hm : xs.length ≤ 1000000) :
    Calls Try.prog 11 #[.agg #[bv, .int .i64 (k : Int)], .int .i64 n] w fun e w' => ∃ v', e = .returned (.tuple #[.agg #[bv, .int .i64 ((k + takeN xs k n : Nat) : Int)], v', .int .i64 (takeE xs k n)]) ∧ SlV w' v' (U (cut xs k (takeN xs k n))) ∧ Below w.heap.size w w' ∧ ∀ b, v'.ownBlock = some b → w.heap.size ≤ b := by
  obtain ⟨a0, cap, rfl, hcap, -⟩ := hs.shapeU rfl
  by_cases h0 : n < 0
  · have e1 : takeE xs k n = 1 := by simp [takeE, h0]
    have e2 : takeN xs k n = 0 := by simp [takeN, e1]
    rw [e1, e2, Nat.add_zero]
    clear e1 e2
    go_enter Try.func11, Try.ntmps11
    go_wp2
    go_returns
    exact ⟨_, rfl, SlV.nil _, below2 _ _ _, by simp [Value.ownBlock]⟩
  by_cases h1 : (xs.length : Int) - k < n
  · have e1 : takeE xs k n = 2 := by simp [takeE, h0, h1]
    have e2 : takeN xs k n = 0 := by simp [takeN, e1]
    rw [e1, e2, Nat.add_zero]
    clear e1 e2
    go_enter Try.func11, Try.ntmps11
    go_wp2
    go_returns
    exact ⟨_, rfl, SlV.nil _, below2 _ _ _, by simp [Value.ownBlock]⟩
  · have e1 : takeE xs k n = 0 := by simp [takeE, h0, h1]
    have e2 : takeN xs k n = n.toNat := by simp [takeN, e1]
    rw [e1, e2]
    clear e1 e2
    obtain ⟨m, rfl⟩ := Int.eq_ofNat_of_zero_le (show 0 ≤ n by omega)
    rw [Int.toNat_natCast]
    have hle : k + m ≤ xs.length := by omega
    have hcl := cut_length xs k m hle
    have HC := hide hcl
    clear hcl
    go_enter Try.func11, Try.ntmps11
    go_wp2_with (at_builtin; refine wpList_append_sl rfl (.tmp 20) (.tmp 29) 22 rfl (w.heap.size + 2) 5 _ 1 Try.underlying22 Try.info5 rfl _ 0 [] rfl (own_empty_at _ _ _ _ (by simp) (by simp)) _ (U (cut xs k m)) rfl (by rw [Nat.add_sub_cancel_left, cut, U_take, U_drop]; exact (hs.below (below3 _ _ _ _)).cutIf k m hle) (U_one _) (by rw [U_length, unhide HC]; unfold maxLen; omega) (by rw [U_length, unhide HC]; omega) (by simp) ?_; intro v1 w1 ho1 hg1; obtain ⟨hb1, hz1, k0, k1, k2, k3, f1, f2, f3⟩ := ref_facts hg1; clear hg1)
    all_goals
      refine bodyPost_ret (v := .tuple #[.agg #[_, .int .i64 ((k : Int) + m)], v1, .int .i64 0]) (by simp [results, Try.results11, go_sem, k2, k3]; rfl) rfl ?_
      refine ⟨v1, rfl, ?_, ((hb1.setCell (Nat.le_refl _) _).setCell (by simp) _).setCell (by simp) _, fun b e => by have := (ho1.lt b e).1; omega⟩
      refine (show SlV w1 v1 (U (cut xs k m)) from SlV.ofOwn ho1).keep fun b e _ => ?_
      have := (ho1.lt b e).1
      rw [Below.heap_setCell _ _ _ _ (by simp; omega), Below.heap_setCell _ _ _ _ (by simp; omega), Below.heap_setCell _ _ _ _ (by simp; omega)]

theorem u64_mulAdd {x y : Int} (h0 : 0 ≤ x) (h1 : x < 72057594037927936) (h2 : 0 ≤ y) (h3 : y ≤ 255) : IntKind.u64.wrap (IntKind.u64.wrap (x * 256) + y) = x * 256 + y := by
  rw [IntKind.wrap_u64, IntKind.wrap_u64]; omega

set_option maxHeartbeats 400000 in
theorem refvalue_any (v : Value) (ys : List Int) (w : World) (hs : SlV w v (U ys)) (hb : Byt ys) (hm : ys.length ≤ 8) :
    Calls Try.prog 24 #[v] w fun e w' => e = .returned (.int .u64 (num ys)) ∧ w = w' := by
  obtain ⟨a0, cap, rfl, hcap, -⟩ := hs.shapeU rfl
  go_enter Try.func24, Try.ntmps24
  go_wp2
  go_loop [3, 4] (fun s i => ∃ j : Nat, j ≤ ys.length ∧ i = .int .i64 j ∧ s = .int .u64 (num (ys.take j))) (fun _ i => ys.length - (intOf i).toNat)
  case atStart => exact ⟨0, Nat.zero_le _, rfl, rfl⟩
  case round =>
    obtain ⟨j, hj, rfl, rfl⟩ := hrel
    by_cases hlt : j < ys.length
    · have hcell : ∃ b off, a0 = some ⟨b, off, none⟩ ∧ w.cell? ⟨b, off + j, none⟩ = some (.int .u8 ys[j]) := by
        obtain ⟨a', cap', he, -, -, -, h4⟩ := hs
        simp only [Value.slice.injEq] at he
        obtain ⟨rfl, -, -⟩ := he
        obtain ⟨b, off, rfl, h5⟩ := h4 (by rw [U_length]; omega)
        exact ⟨b, off, rfl, h5 j _ (U_get ys j hlt)⟩
      obtain ⟨b, off, rfl, hcell⟩ := hcell
      have hyb := hb.get j hlt
      have hnb := num_bound (hb.take j)
      have hst := num_snoc (ys.take j) ys[j]
      rw [← List.take_succ_eq_append_getElem hlt] at hst
      have hp : (256 : Int) ^ (ys.take j).length ≤ 72057594037927936 := by
        have : (ys.take j).length ≤ 7 := by rw [List.length_take]; omega
        exact pow256_le this
      obtain ⟨y, hy⟩ : ∃ y, y = ys[j] := ⟨_, rfl⟩
      rw [← hy] at hcell hyb hst
      have hor := u64_mulAdd (x := num (ys.take j)) (y := y) (by omega) (by omega) hyb.1 hyb.2
      have HO := hide hor
      have HS := hide hst
      clear hy hst hp hor
      go_wp2
      refine ⟨⟨j + 1, by omega, by go_num, ?_⟩, by simp [intOf]; omega⟩
      rw [unhide HS]
      first | rw [unhide HO] | go_num
    · obtain rfl : j = ys.length := by omega
      go_wp2
      go_ret
      exact ⟨by simp, rfl⟩

/-- What Number answers: the error; how many bytes. -/
def numE (xs : List Int) (k : Nat) (x : Int) : Int := if x < 1 ∨ 8 < x then 1 else takeE xs k x
def numN (xs : List Int) (k : Nat) (x : Int) : Nat := if x < 1 ∨ 8 < x then 0 else takeN xs k x
theorem numN_le (xs : List Int) (k : Nat) (x : Int) (hk : k ≤ xs.length) : k + numN xs k x ≤ xs.length := by
  unfold numN; split
  · omega
  · exact takeN_le xs k x hk
theorem numN_8 (xs : List Int) (k : Nat) (x : Int) : numN xs k x ≤ 8 := by
  unfold numN takeN; split
  · omega
  · split <;> omega
theorem cut_zero (xs : List Int) (k : Nat) : cut xs k 0 = [] := by simp [cut]

theorem number_any (c : Nat) (sv : Value) (xs : List Int) (k : Nat) (x : Int) (w : World) (h : CurAt w c sv xs k) (hby : Byt xs) :
    Calls Try.prog 12 #[.pointer (some ⟨c, 0, none⟩), .int .i64 x] w fun e w' => e = .returned (.tuple #[.int .u64 (num (cut xs k (numN xs k x))), .int .i64 (numE xs k x)]) ∧ CurAt w' c sv xs (k + numN xs k x) ∧ w.grownBy w' (some c) := by
  by_cases hx : x < 1 ∨ 8 < x
  · have e1 : numE xs k x = 1 := by simp [numE, hx]
    have e2 : numN xs k x = 0 := by simp [numN, hx]
    rw [e1, e2, cut_zero]
    refine (number_bad c x w hx).mono ?_
    rintro e w' ⟨rfl, rfl⟩
    exact ⟨rfl, h, ⟨rfl, rfl, rfl, Nat.le_refl _, fun _ _ _ => rfl⟩⟩
  have e1 : numE xs k x = takeE xs k x := by simp [numE, hx]
  have e2 : numN xs k x = takeN xs k x := by simp [numN, hx]
  rw [e1, e2]
  have hle := h.le
  by_cases h1 : (xs.length : Int) - k < x
  · have e1 : takeE xs k x = 2 := by simp [takeE, h1]; omega
    have e2 : takeN xs k x = 0 := by simp [takeN, e1]
    rw [e1, e2, cut_zero]
    refine (number_short c sv xs k x w h (by omega) (by omega) h1).mono ?_
    rintro e w' ⟨rfl, hb⟩
    exact ⟨rfl, h.below hb, grown_of_below hb _⟩
  · have e1 : takeE xs k x = 0 := by simp [takeE, h1]; omega
    have e2 : takeN xs k x = x.toNat := by simp [takeN, e1]
    rw [e1, e2]
    obtain ⟨m, rfl⟩ := Int.eq_ofNat_of_zero_le (show 0 ≤ x by omega)
    refine (number_ok c sv xs k m w h hby (by omega) (by omega) (by omega)).mono ?_
    rintro e w' ⟨rfl, hc, hg⟩
    exact ⟨rfl, hc, hg⟩

set_option maxHeartbeats 800000 in
theorem refnumber_any (bv : Value) (xs : List Int) (k : Nat) (x : Int) (w : World) (hs : SlV w bv (U xs)) (hby : Byt xs) (hk : k ≤ xs.length) (hm : xs.length ≤ 1000000) :
    Calls Try.prog 13 #[.agg #[bv, .int .i64 (k : Int)], .int .i64 x] w fun e w' => e = .returned (.tuple #[.agg #[bv, .int .i64 ((k + numN xs k x : Nat) : Int)], .int .u64 (num (cut xs k (numN xs k x))), .int .i64 (numE xs k x)]) ∧ Below w.heap.size w w' := by
  obtain ⟨a0, cap, rfl, hcap, -⟩ := hs.shapeU rfl
  by_cases hx : x < 1 ∨ 8 < x
  · have e1 : numE xs k x = 1 := by simp [numE, hx]
    have e2 : numN xs k x = 0 := by simp [numN, hx]
    rw [e1, e2, cut_zero, Nat.add_zero]
    clear e1 e2
    rcases hx with hx | hx
    · have d1 : decide (x < 1) = true := by simp; omega
      go_enter Try.func13, Try.ntmps13
      go_wp2
      go_returns
      exact ⟨rfl, below2 _ _ _⟩
    · have d1 : decide (x < 1) = false := by simp; omega
      go_enter Try.func13, Try.ntmps13
      go_wp2
      go_returns
      exact ⟨rfl, below2 _ _ _⟩
  have e1 : numE xs k x = takeE xs k x := by simp [numE, hx]
  have e2 : numN xs k x = takeN xs k x := by simp [numN, hx]
  have h8 := numN_8 xs k x
  have hnl := numN_le xs k x hk
  rw [e2] at h8 hnl
  rw [e1, e2]
  clear e1 e2
  have d1 : decide (x < 1) = false := by simp; omega
  have d2 : decide (8 < x) = false := by simp; omega
  have hcl := cut_length xs k (takeN xs k x) hnl
  have hcb := cut_byt hby k (takeN xs k x)
  have hct := reftake_any (.slice a0 xs.length cap) xs k x
  generalize takeN xs k x = N at *
  generalize takeE xs k x = E at *
  have HC := hide hcl
  have HT := hide hct
  clear hx hcl hct
  go_enter Try.func13, Try.ntmps13
  go_wp2_with fail
  refine (unhide HT _ (hs.below (below2 _ _ _)) hk hm).mono ?_
  rintro e w1 ⟨v1, rfl, hs1, hb1, hv1⟩
  simp at hv1
  obtain ⟨hb1, hz1, k0, k1, k2, k3, f0, f1, f2, f3⟩ := ref_facts2 hb1
  clear HT
  rw [Int.natCast_add]
  go_wp2
  obtain ⟨hb2, m0, m1, m2, m3, g2, g3, hs2⟩ : Below w.heap.size w ((w1.setCell ⟨w.heap.size, 0, none⟩ (.slice a0 xs.length cap)).setCell ⟨w.heap.size, 1, none⟩ (.int .i64 ((k : Int) + N))) ∧
      ((w1.setCell ⟨w.heap.size, 0, none⟩ (.slice a0 xs.length cap)).setCell ⟨w.heap.size, 1, none⟩ (.int .i64 ((k : Int) + N))).cell? ⟨w.heap.size, 0, none⟩ = some (.slice a0 xs.length cap) ∧
      ((w1.setCell ⟨w.heap.size, 0, none⟩ (.slice a0 xs.length cap)).setCell ⟨w.heap.size, 1, none⟩ (.int .i64 ((k : Int) + N))).cell? ⟨w.heap.size, 1, none⟩ = some (.int .i64 ((k : Int) + N)) ∧
      ((w1.setCell ⟨w.heap.size, 0, none⟩ (.slice a0 xs.length cap)).setCell ⟨w.heap.size, 1, none⟩ (.int .i64 ((k : Int) + N))).cell? ⟨w.heap.size + 1, 0, none⟩ = some (.slice none 0 0) ∧
      ((w1.setCell ⟨w.heap.size, 0, none⟩ (.slice a0 xs.length cap)).setCell ⟨w.heap.size, 1, none⟩ (.int .i64 ((k : Int) + N))).cell? ⟨w.heap.size + 1, 1, none⟩ = some (.int .i64 0) ∧
      ((w1.setCell ⟨w.heap.size, 0, none⟩ (.slice a0 xs.length cap)).setCell ⟨w.heap.size, 1, none⟩ (.int .i64 ((k : Int) + N))).frozen? ⟨w.heap.size + 1, 0, none⟩ = false ∧
      ((w1.setCell ⟨w.heap.size, 0, none⟩ (.slice a0 xs.length cap)).setCell ⟨w.heap.size, 1, none⟩ (.int .i64 ((k : Int) + N))).frozen? ⟨w.heap.size + 1, 1, none⟩ = false ∧
      SlV ((w1.setCell ⟨w.heap.size, 0, none⟩ (.slice a0 xs.length cap)).setCell ⟨w.heap.size, 1, none⟩ (.int .i64 ((k : Int) + N))) v1 (U (cut xs k N)) := by
    refine ⟨(hb1.setCell (Nat.le_refl _) _).setCell (Nat.le_refl _) _, by simp [go_sem, k0], by simp [go_sem, k1], by simp [go_sem, k2], by simp [go_sem, k3], by simp [go_sem, f2], by simp [go_sem, f3], ?_⟩
    refine hs1.keep fun b e _ => ?_
    have := hv1 b e
    rw [Below.heap_setCell _ _ _ _ (by simp; omega), Below.heap_setCell _ _ _ _ (by simp; omega)]
  generalize (w1.setCell ⟨w.heap.size, 0, none⟩ (.slice a0 xs.length cap)).setCell ⟨w.heap.size, 1, none⟩ (.int .i64 ((k : Int) + N)) = w2 at *
  go_region_held3 (fun w' => w'.cell? ⟨w.heap.size, 0, none⟩ = some (.slice a0 xs.length cap) ∧ w'.cell? ⟨w.heap.size, 1, none⟩ = some (.int .i64 ((k : Int) + N)))
    (go_keep)
    (first
      | (go_at_call 24; refine (refvalue_any v1 (cut xs k N) _ hs2.drewd hcb (by rw [unhide HC]; exact h8)).mono ?_; rintro e w' ⟨rfl, rfl⟩))
  go_wp2
  refine bodyPost_ret (v := .tuple #[.agg #[.slice a0 xs.length cap, .int .i64 ((k : Int) + N)], .int .u64 (num (cut xs k N)), .int .i64 E]) (by simp [results, Try.results13, go_sem, m2, m3]) rfl ?_
  exact ⟨by rw [Int.natCast_add], ((hb2.setCell (by simp) _).setCell (by simp) _).drew⟩

/-- What Back answers: the error; the new place. -/
def backE (k : Nat) (n : Int) : Int := if n < 0 ∨ (k : Int) < n then 1 else 0
def backK (k : Nat) (n : Int) : Nat := if n < 0 ∨ (k : Int) < n then k else k - n.toNat
theorem back_any (c : Nat) (sv : Value) (xs : List Int) (k : Nat) (n : Int) (w : World) (h : CurAt w c sv xs k) :
    Calls Try.prog 15 #[.pointer (some ⟨c, 0, none⟩), .int .i64 n] w fun e w' => e = .returned (.int .i64 (backE k n)) ∧ CurAt w' c sv xs (backK k n) ∧ w.grownBy w' (some c) := by
  by_cases hx : n < 0 ∨ (k : Int) < n
  · have e1 : backE k n = 1 := by simp [backE, hx]
    have e2 : backK k n = k := by simp [backK, hx]
    rw [e1, e2]
    refine (back_bad c sv xs k n w h hx).mono ?_
    rintro e w' ⟨rfl, rfl⟩
    exact ⟨rfl, h, ⟨rfl, rfl, rfl, Nat.le_refl _, fun _ _ _ => rfl⟩⟩
  · have e1 : backE k n = 0 := by simp [backE, hx]
    have e2 : backK k n = k - n.toNat := by simp [backK, hx]
    rw [e1, e2]
    obtain ⟨m, rfl⟩ := Int.eq_ofNat_of_zero_le (show 0 ≤ n by omega)
    refine (back_ok c sv xs k m w h (by omega)).mono ?_
    rintro e w' ⟨rfl, hc, hg⟩
    exact ⟨rfl, hc, hg⟩
theorem refback_any (bv : Value) (a0 : Option Addr) (len cap : Nat) (k : Nat) (n : Int) (w : World) (hv : bv = .slice a0 len cap) (hk : k ≤ 1000000) :
    Calls Try.prog 16 #[.agg #[bv, .int .i64 (k : Int)], .int .i64 n] w fun e w' => e = .returned (.tuple #[.agg #[bv, .int .i64 (backK k n : Int)], .int .i64 (backE k n)]) ∧ Below w.heap.size w w' := by
  subst hv
  by_cases h0 : n < 0
  · have e1 : backE k n = 1 := by simp [backE, h0]
    have e2 : backK k n = k := by simp [backK, h0]
    rw [e1, e2]
    have d1 : decide (n < 0) = true := by simp; omega
    clear e1 e2
    go_enter Try.func16, Try.ntmps16
    go_wp2
    go_returns
    exact ⟨rfl, below2 _ _ _⟩
  by_cases h1 : (k : Int) < n
  · have e1 : backE k n = 1 := by simp [backE, h1]
    have e2 : backK k n = k := by simp [backK, h1]
    rw [e1, e2]
    have d1 : decide (n < 0) = false := by simp; omega
    clear e1 e2
    go_enter Try.func16, Try.ntmps16
    go_wp2
    go_returns
    exact ⟨rfl, below2 _ _ _⟩
  · have e1 : backE k n = 0 := by simp [backE, h0, h1]
    have e2 : backK k n = k - n.toNat := by simp [backK, h0, h1]
    rw [e1, e2]
    have d1 : decide (n < 0) = false := by simp; omega
    obtain ⟨m, rfl⟩ := Int.eq_ofNat_of_zero_le (show 0 ≤ n by omega)
    rw [Int.toNat_natCast, show ((k - m : Nat) : Int) = (k : Int) - m from by omega]
    clear e1 e2
    go_enter Try.func16, Try.ntmps16
    go_wp2
    go_returns
    exact ⟨rfl, below2 _ _ _⟩
end Go.Proofs.Ytcdkphkgjimamaa
