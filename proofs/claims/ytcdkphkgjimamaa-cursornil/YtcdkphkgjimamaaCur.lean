/-
  Contracts of the functions of package cursor, over this seat's translation. Conditions: lengths below 2^47.
-/
import Derived.Test.YtcdkphkgjimamaaRows
import Derived.Test.YtcdkphkgjimamaaKit
namespace Go.Proofs.Ytcdkphkgjimamaa
open Go.RowKit
set_option linter.unusedVariables false

theorem Try.info5 : (Try.prog.info? 5).map (fun i => (i.zero, i.size, i.bytes)) = some (some (.int .u8 0), 1, 1) := by kernel_rfl
theorem Try.size5 : (Try.prog.info? 5).map (·.size) = some 1 := by kernel_rfl

theorem isWidth_yes (x : Int) (w : World) (h1 : 1 ≤ x) (h2 : x ≤ 8) :
    Calls Try.prog 23 #[.int .i64 x] w fun e w' => e = .returned (.bool true) ∧ w = w' := by
  go_enter Try.func23, Try.ntmps23
  go_wp2
  go_ret
  exact ⟨rfl, rfl⟩
theorem isWidth_no (x : Int) (w : World) (h : x < 1 ∨ 8 < x) :
    Calls Try.prog 23 #[.int .i64 x] w fun e w' => e = .returned (.bool false) ∧ w = w' := by
  rcases h with h | h
  · have h' : decide (1 ≤ x) = false := by simp; omega
    go_enter Try.func23, Try.ntmps23
    go_wp2
    go_ret
    exact ⟨rfl, rfl⟩
  · have h' : decide (1 ≤ x) = true := by simp; omega
    have h'' : decide (x ≤ 8) = false := by simp; omega
    go_enter Try.func23, Try.ntmps23
    go_wp2
    go_ret
    exact ⟨rfl, rfl⟩
/-- Does n have room in x bytes? -/
def fitsB (n x : Int) : Bool := n / 2 ^ (8 * x).toNat == 0
theorem fits_any (n x : Int) (w : World) (h0 : 0 ≤ n) (hn : n < 18446744073709551616) (h1 : 1 ≤ x) (h2 : x ≤ 8) :
    Calls Try.prog 25 #[.int .u64 n, .int .i64 x] w fun e w' => e = .returned (.bool (fitsB n x)) ∧ w = w' := by
  go_enter Try.func25, Try.ntmps25
  go_wp2
  go_ret
  exact ⟨rfl, rfl⟩

theorem clone_any (v : Value) (xs : List Int) (w : World) (hs : SlV w v (U xs)) (hm : xs.length ≤ 140737488355328) :
    Calls Try.prog 21 #[v] w fun e w' => ∃ v', e = .returned v' ∧ w'.ownsRow w.heap.size 5 1 v' xs.length (U xs) ∧ Below w.heap.size w w' := by
  obtain ⟨a, cap, hv, hc, hcm⟩ := hs.shape
  subst hv
  rw [U_length] at *
  obtain ⟨i0, hi, hz0, hz1, hz2⟩ := info_parts Try.info5
  have hm' : xs.length ≤ maxLen := by unfold maxLen; omega
  go_enter Try.func21, Try.ntmps21
  go_wp2_with (at_make; refine wpList_make_full _ rfl _ _ 22 rfl w.heap.size 5 i0 _ 1 Try.underlying22 hi hz0 hz1 _ _ _ _ xs.length rfl rfl rfl rfl (by rw [hz2]; omega) hm' (Nat.le_refl _) ?_)
  intro w1 hown hgrow
  have hown := own_made hown
  have hs1 := hs.grown hgrow (by simp)
  have hb1 : Below w.heap.size w w1 := (Below.refl _ _).grown hgrow (Nat.le_refl _) (by simp)
  have HO := hide hown
  have HS := hide hs1
  clear hown hs1 hs hgrow
  go_wp2_with (refine wpList_copy_full rfl (.tmp 7) (.tmp 8) 22 rfl 5 Try.underlying22 Try.size5 w.heap.size xs.length xs.length xs.length w.heap.size _ (U xs) _ _ rfl rfl (U_length _).symm (unhide HO) (unhide HS) (by rw [U_length]; exact Nat.le_refl _) (U_one _) ?_)
  intro w2 hown2 hgrow2 hsz2
  have hb2 : Below w.heap.size w w2 := hb1.grown hgrow2 hb1.size (by simp)
  have HO2 := hide hown2
  clear hown2 hgrow2
  go_wp2
  go_ret
  refine ⟨_, rfl, ?_, hb2⟩
  have := unhide HO2
  simpa [U_length] using this

/-- The k lowest bytes of n, the highest first. -/
def be (n : Int) : Nat → List Int
  | 0 => []
  | k + 1 => be (n / 256) k ++ [n % 256]
theorem be_length (n : Int) (k : Nat) : (be n k).length = k := by
  induction k generalizing n with
  | zero => rfl
  | succ k ih => simp [be, ih]
theorem be_cons (n : Int) (k : Nat) : be n (k + 1) = (n / 256 ^ k % 256) :: be n k := by
  induction k generalizing n with
  | zero => simp [be]
  | succ k ih =>
    rw [be, ih, be, Int.ediv_ediv_of_nonneg (by omega), Int.pow_succ, Int.mul_comm (256 ^ k) 256]; rfl
theorem be_byt (n : Int) (k : Nat) : Byt (be n k) := by
  induction k generalizing n with
  | zero => exact Byt.nil
  | succ k ih => rw [be]; refine (ih _).append ?_; intro m hm; simp at hm; omega
/-- What lies behind k rounds. -/
def putTo (xs : List Int) (n : Int) (m k : Nat) : List Int := xs ++ (List.replicate (m - k) 0 ++ be n k)
theorem putTo_length (xs : List Int) (n : Int) (m k : Nat) (h : k ≤ m) : (putTo xs n m k).length = xs.length + m := by simp [putTo, be_length]; omega
theorem putTo_step (xs : List Int) (n : Int) (m k : Nat) (h : k < m) : (U (putTo xs n m k)).set (xs.length + m - 1 - k) (.int .u8 (n / 256 ^ k % 256)) = U (putTo xs n m (k + 1)) := by
  have e : U (putTo xs n m k) = U xs ++ (List.replicate (m - k - 1) (.int .u8 0) ++ (.int .u8 0 :: U (be n k))) := by
    have : m - k = (m - k - 1) + 1 := by omega
    simp only [putTo, U_append]
    rw [this, List.replicate_succ']
    simp [U]
  rw [e, List.set_append_right _ _ (by simp [U_length]; omega), List.set_append_right _ _ (by simp [U_length]; omega)]
  have h0 : xs.length + m - 1 - k - (U xs).length - (List.replicate (m - k - 1) (Value.int .u8 0)).length = 0 := by simp [U_length]; omega
  rw [h0, List.set_cons_zero]
  simp only [putTo, U_append, be_cons]
  simp [U, Nat.sub_sub]

theorem two_pow (k : Nat) : (2 : Int) ^ (8 * k) = 256 ^ k := by rw [Int.pow_mul]; rfl

set_option maxHeartbeats 400000 in
theorem put_ok (v : Value) (xs : List Int) (n x : Int) (w : World) (hs : SlV w v (U xs)) (hm : xs.length ≤ 1000000) (h0 : 0 ≤ n) (hn : n < 18446744073709551616) (h1 : 1 ≤ x) (h2 : x ≤ 8) (hf : fitsB n x = true) :
    Calls Try.prog 19 #[v, .int .u64 n, .int .i64 x] w fun e w' => ∃ v', e = .returned (.tuple #[v', .int .i64 0]) ∧ w'.ownsRow w.heap.size 5 1 v' (xs.length + x.toNat) (U (xs ++ be n x.toNat)) ∧ Below w.heap.size w w' := by
  obtain ⟨a, cap, hv, hc, hcm⟩ := hs.shape
  subst hv
  rw [U_length] at *
  obtain ⟨m, rfl⟩ := Int.eq_ofNat_of_zero_le (show 0 ≤ x by omega)
  obtain ⟨i0, hi, hz0, hz1, hz2⟩ := info_parts Try.info5
  have hm' : xs.length + m ≤ maxLen := by unfold maxLen; omega
  have hf' := hide hf
  go_enter Try.func19, Try.ntmps19
  go_wp2_with (first
    | (go_at_call 23; refine (isWidth_yes _ _ (by omega) (by omega)).mono ?_; rintro e w' ⟨rfl, rfl⟩)
    | (go_at_call 25; refine (fits_any _ _ _ h0 hn (by omega) (by omega)).mono ?_; rw [hf]; rintro e w' ⟨rfl, rfl⟩)
    | (at_make; refine wpList_make_full _ rfl _ _ 22 rfl w.heap.size 5 i0 _ 1 Try.underlying22 hi hz0 hz1 _ _ _ _ (xs.length + m) rfl rfl (by omega) (by omega) (by rw [hz2]; omega) hm' (Nat.le_refl _) ?_))
  intro w1 hown hgrow
  have hown := own_made hown
  have hs1 := hs.grown hgrow (by simp)
  have hb1 : Below w.heap.size w w1 := (Below.refl _ _).grown hgrow (Nat.le_refl _) (by simp)
  clear hgrow hs
  go_wp2_with (refine wpList_copy_full rfl (.tmp 24) (.tmp 25) 22 rfl 5 Try.underlying22 Try.size5 w.heap.size (xs.length + m) (xs.length + m) xs.length w.heap.size _ (U xs) _ _ rfl rfl (U_length _).symm hown hs1 (by rw [U_length]; omega) (U_one _) ?_)
  intro w2 hown2 hgrow2 hsz2
  have hb2 : Below w.heap.size w w2 := hb1.grown hgrow2 hb1.size (by simp)
  have hown2 : w2.ownsRow w.heap.size 5 1 (.slice (some ⟨w.heap.size, 0, none⟩) (xs.length + m) (xs.length + m)) (xs.length + m) (U (putTo xs n m 0)) := by
    have e : U (putTo xs n m 0) = U xs ++ List.replicate (xs.length + m - (U xs).length) (Value.int IntKind.u8 0) := by
      simp [putTo, be, U]
    rw [e]; exact hown2
  clear hown hs1 hb1 hgrow2 hsz2
  go_wp2
  go_loopw [28] (fun i wr => ∃ k : Nat, k ≤ m ∧ i = .int .i64 k ∧ wr.ownsRow w.heap.size 5 1 (.slice (some ⟨w.heap.size, 0, none⟩) (xs.length + m) (xs.length + m)) (xs.length + m) (U (putTo xs n m k)) ∧ Below w.heap.size w wr) (fun i _ => m - (intOf i).toNat)
  case atStart => exact ⟨0, Nat.zero_le _, rfl, hown2, hb2⟩
  case round =>
    obtain ⟨k, hk, rfl, ho, hb⟩ := hrel
    by_cases hlt : k < m
    · have hst := ho.stored (xs.length + m - 1 - k) (.int .u8 (n / 2 ^ (8 * k) % 256))
      have hfr := ho.frozenAt (xs.length + m - 1 - k)
      have hce : ∃ u, wr.cell? ⟨w.heap.size, xs.length + m - 1 - k, none⟩ = some u := by
        rw [ho.cellAt _ (by omega)]
        exact ⟨_, List.getElem?_eq_getElem (by rw [U_length, putTo_length _ _ _ _ hk]; omega)⟩
      obtain ⟨u, hce⟩ := hce
      rw [two_pow, putTo_step _ _ _ _ hlt, ← two_pow] at hst
      go_wp2
      exact ⟨⟨k + 1, by omega, by go_num, hst.1, hb.setCell (Nat.le_refl _) _⟩, by simp [intOf]; omega⟩
    · obtain rfl : k = m := by omega
      go_wp2
      go_ret2
      refine ⟨_, rfl, ?_, hb⟩
      have e : putTo xs n k k = xs ++ be n k := by simp [putTo]
      rw [e] at ho
      exact ho

theorem put_bad (v : Value) (n x : Int) (w : World) (h0 : 0 ≤ n) (hn : n < 18446744073709551616) (hf : ¬ (1 ≤ x ∧ x ≤ 8 ∧ fitsB n x = true)) :
    Calls Try.prog 19 #[v, .int .u64 n, .int .i64 x] w fun e w' => e = .returned (.tuple #[.slice none 0 0, .int .i64 1]) ∧ w = w' := by
  by_cases h1 : 1 ≤ x ∧ x ≤ 8
  · have hf' : fitsB n x = false := by
      cases h : fitsB n x with
      | false => rfl
      | true => exact absurd ⟨h1.1, h1.2, h⟩ hf
    obtain ⟨h1, h2⟩ := h1
    clear hf
    go_enter Try.func19, Try.ntmps19
    go_wp2_with (first
      | (go_at_call 23; refine (isWidth_yes _ _ (by omega) (by omega)).mono ?_; rintro e w' ⟨rfl, rfl⟩)
      | (go_at_call 25; refine (fits_any _ _ _ h0 hn (by omega) (by omega)).mono ?_; rw [hf']; rintro e w' ⟨rfl, rfl⟩))
    go_ret2
    exact ⟨rfl, rfl⟩
  · have h1 : x < 1 ∨ 8 < x := by omega
    clear hf
    go_enter Try.func19, Try.ntmps19
    go_wp2_with (first
      | (go_at_call 23; refine (isWidth_no _ _ h1).mono ?_; rintro e w' ⟨rfl, rfl⟩))
    go_ret2
    exact ⟨rfl, rfl⟩

theorem alive_true (w : World) : Calls Try.prog 8 #[] w fun e w' => e = .returned (.bool true) ∧ Below w.heap.size w w' := by
  go_enter Try.func8, Try.ntmps8
  go_wp2_with fail
  refine (put_ok _ [] 258 3 w (SlV.nil w) (by simp) (by omega) (by omega) (by omega) (by omega) (by decide)).mono ?_
  rintro e w1 ⟨v', rfl, ho, hb⟩
  have hstr := run_string (P := Try.prog) w1 22 9 5 Try.underlying22 Try.underlying5 Try.underlying9 v' _ (SlV.ofOwn ho)
  go_wp2_with fail
  refine (put_bad _ 256 1 w1 (by omega) (by omega) (by decide)).mono ?_
  rintro e w2 ⟨rfl, rfl⟩
  have e3 : strOfNums ([] ++ be 258 (3 : Int).toNat) = ⟨#[0, 1, 2]⟩ := by decide
  rw [e3] at hstr
  go_wp2
  go_ret
  exact ⟨rfl, hb⟩
end Go.Proofs.Ytcdkphkgjimamaa
