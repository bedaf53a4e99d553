/-
  Contracts of the functions of package cursor, over this seat's translation. Conditions: lengths below 2^47.
-/
import Derived.Test.YtcdkphkgjimamaaRows
import Derived.Test.YtcdkphkgjimamaaKit
namespace Go.Proofs.Ytcdkphkgjimamaa
open Go.RowKit
set_option linter.unusedVariables false

theorem Try.info5 : (Try.prog.info? 5).map (fun i => (i.zero, i.size, i.bytes)) = some (some (.int .u8 0), 1, 1) := by kernel_rfl
theorem Try.size5 : (Try.prog.info? 5).map (·.size) = some 1 := by kernel_rfl

theorem isWidth_yes (x : Int) (w : World) (h1 : 1 ≤ x) (h2 : x ≤ 8) :
    Calls Try.prog 23 #[.int .i64 x] w fun e w' => e = .returned (.bool true) ∧ w = w' := by
  go_enter Try.func23, Try.ntmps23
  go_wp2
  go_ret
  exact ⟨rfl, rfl⟩
theorem isWidth_no (x : Int) (w : World) (h : x < 1 ∨ 8 < x) :
    Calls Try.prog 23 #[.int .i64 x] w fun e w' => e = .returned (.bool false) ∧ w = w' := by
  rcases h with h | h
  · have h' : decide (1 ≤ x) = false := by simp; omega
    go_enter Try.func23, Try.ntmps23
    go_wp2
    go_ret
    exact ⟨rfl, rfl⟩
  · have h' : decide (1 ≤ x) = true := by simp; omega
    have h'' : decide (x ≤ 8) = false := by simp; omega
    go_enter Try.func23, Try.ntmps23
    go_wp2
    go_ret
    exact ⟨rfl, rfl⟩
/-- Does n have room in x bytes? -/
def fitsB (n x : Int) : Bool := n / 2 ^ (8 * x).toNat == 0
theorem fits_any (n x : Int) (w : World) (h0 : 0 ≤ n) (hn : n < 18446744073709551616) (h1 : 1 ≤ x) (h2 : x ≤ 8) :
    Calls Try.prog 25 #[.int .u64 n, .int .i64 x] w fun e w' => e = .returned (.bool (fitsB n x)) ∧ w = w' := by
  go_enter Try.func25, Try.ntmps25
  go_wp2
  go_ret
  exact ⟨rfl, rfl⟩

theorem clone_any (v : Value) (xs : List Int) (w : World) (hs : SlV w v (U xs)) (hm : xs.length ≤ 140737488355328) :
    Calls Try.prog 21 #[v] w fun e w' => ∃ v', e = .returned v' ∧ w'.ownsRow w.heap.size 5 1 v' xs.length (U xs) ∧ Below w.heap.size w w' := by
  obtain ⟨a, cap, hv, hc, hcm⟩ := hs.shape
  subst hv
  rw [U_length] at *
  obtain ⟨i0, hi, hz0, hz1, hz2⟩ := info_parts Try.info5
  have hm' : xs.length ≤ maxLen := by unfold maxLen; omega
  go_enter Try.func21, Try.ntmps21
  go_wp2_with (at_make; refine wpList_make_full _ rfl _ _ 22 rfl w.heap.size 5 i0 _ 1 Try.underlying22 hi hz0 hz1 _ _ _ _ xs.length rfl rfl rfl rfl (by rw [hz2]; omega) hm' (Nat.le_refl _) ?_)
  intro w1 hown hgrow
  have hown := own_made hown
  have hs1 := hs.grown hgrow (by simp)
  have hb1 : Below w.heap.size w w1 := (Below.refl _ _).grown hgrow (Nat.le_refl _) (by simp)
  have HO := hide hown
  have HS := hide hs1
  clear hown hs1 hs hgrow
  go_wp2_with (refine wpList_copy_full rfl (.tmp 7) (.tmp 8) 22 rfl 5 Try.underlying22 Try.size5 w.heap.size xs.length xs.length xs.length w.heap.size _ (U xs) _ _ rfl rfl (U_length _).symm (unhide HO) (unhide HS) (by rw [U_length]; exact Nat.le_refl _) (U_one _) ?_)
  intro w2 hown2 hgrow2 hsz2
  have hb2 : Below w.heap.size w w2 := hb1.grown hgrow2 hb1.size (by simp)
  have HO2 := hide hown2
  clear hown2 hgrow2
  go_wp2
  go_ret
  refine ⟨_, rfl, ?_, hb2⟩
  have := unhide HO2
  simpa [U_length] using this

/-- The k lowest bytes of n, the highest first. -/
def be (n : Int) : Nat → List Int
  | 0 => []
  | k + 1 => be (n / 256) k ++ [n % 256]
theorem be_length (n : Int) (k : Nat) : (be n k).length = k := by
  induction k generalizing n with
  | zero => rfl
  | succ k ih => simp [be, ih]
theorem be_cons (n : Int) (k : Nat) : be n (k + 1) = (n / 256 ^ k % 256) :: be n k := by
  induction k generalizing n with
  | zero => simp [be]
  | succ k ih =>
    rw [be, ih, be, Int.ediv_ediv_of_nonneg (by omega), Int.pow_succ, Int.mul_comm (256 ^ k) 256]; rfl
theorem be_byt (n : Int) (k : Nat) : Byt (be n k) := by
  induction k generalizing n with
  | zero => exact Byt.nil
  | succ k ih => rw [be]; refine (ih _).append ?_; intro m hm; simp at hm; omega
/-- What lies behind k rounds. -/
def putTo (xs : List Int) (n : Int) (m k : Nat) : List Int := xs ++ (List.replicate (m - k) 0 ++ be n k)
theorem putTo_length (xs : List Int) (n : Int) (m k : Nat) (h : k ≤ m) : (putTo xs n m k).length = xs.length + m := by simp [putTo, be_length]; omega
theorem putTo_step (xs : List Int) (n : Int) (m k : Nat) (h : k < m) : (U (putTo xs n m k)).set (xs.length + m - 1 - k) (.int .u8 (n / 256 ^ k % 256)) = U (putTo xs n m (k + 1)) := by
  have e : U (putTo xs n m k) = U xs ++ (List.replicate (m - k - 1) (.int .u8 0) ++ (.int .u8 0 :: U (be n k))) := by
    have : m - k = (m - k - 1) + 1 := by omega
    simp only [putTo, U_append]
    rw [this, List.replicate_succ']
    simp [U]
  rw [e, List.set_append_right _ _ (by simp [U_length]; omega), List.set_append_right _ _ (by simp [U_length]; omega)]
  have h0 : xs.length + m - 1 - k - (U xs).length - (List.replicate (m - k - 1) (Value.int .u8 0)).length = 0 := by simp [U_length]; omega
  rw [h0, List.set_cons_zero]
  simp only [putTo, U_append, be_cons]
  simp [U, Nat.sub_sub]

theorem two_pow (k : Nat) : (2 : Int) ^ (8 * k) = 256 ^ k := by rw [Int.pow_mul]; rfl

set_option maxHeartbeats 400000 in
theorem put_ok (v : Value) (xs : List Int) (n x : Int) (w : World) (hs : SlV w v (U xs)) (hm : xs.length ≤ 1000000) (h0 : 0 ≤ n) (hn : n < 18446744073709551616) (h1 : 1 ≤ x) (h2 : x ≤ 8) (hf : fitsB n x = true) :
    Calls Try.prog 19 #[v, .int .u64 n, .int .i64 x] w fun e w' => ∃ v', e = .returned (.tuple #[v', .int .i64 0]) ∧ w'.ownsRow w.heap.size 5 1 v' (xs.length + x.toNat) (U (xs ++ be n x.toNat)) ∧ Below w.heap.size w w' := by
  obtain ⟨a, cap, hv, hc, hcm⟩ := hs.shape
  subst hv
  rw [U_length] at *
  obtain ⟨m, rfl⟩ := Int.eq_ofNat_of_zero_le (show 0 ≤ x by omega)
  obtain ⟨i0, hi, hz0, hz1, hz2⟩ := info_parts Try.info5
  have hm' : xs.length + m ≤ maxLen := by unfold maxLen; omega
  have hf' := hide hf
  go_enter Try.func19, Try.ntmps19
  go_wp2_with (first
    | (go_at_call 23; refine (isWidth_yes _ _ (by omega) (by omega)).mono ?_; rintro e w' ⟨rfl, rfl⟩)
    | (go_at_call 25; refine (fits_any _ _ _ h0 hn (by omega) (by omega)).mono ?_; rw [hf]; rintro e w' ⟨rfl, rfl⟩)
    | (at_make; refine wpList_make_full _ rfl _ _ 22 rfl w.heap.size 5 i0 _ 1 Try.underlying22 hi hz0 hz1 _ _ _ _ (xs.length + m) rfl rfl (by omega) (by omega) (by rw [hz2]; omega) hm' (Nat.le_refl _) ?_))
  intro w1 hown hgrow
  have hown := own_made hown
  have hs1 := hs.grown hgrow (by simp)
  have hb1 : Below w.heap.size w w1 := (Below.refl _ _).grown hgrow (Nat.le_refl _) (by simp)
  clear hgrow hs
  go_wp2_with (refine wpList_copy_full rfl (.tmp 24) (.tmp 25) 22 rfl 5 Try.underlying22 Try.size5 w.heap.size (xs.length + m) (xs.length + m) xs.length w.heap.size _ (U xs) _ _ rfl rfl (U_length _).symm hown hs1 (by rw [U_length]; omega) (U_one _) ?_)
  intro w2 hown2 hgrow2 hsz2
  have hb2 : Below w.heap.size w w2 := hb1.grown hgrow2 hb1.size (by simp)
  have hown2 : w2.ownsRow w.heap.size 5 1 (.slice (some ⟨w.heap.size, 0, none⟩) (xs.length + m) (xs.length + m)) (xs.length + m) (U (putTo xs n m 0)) := by
    have e : U (putTo xs n m 0) = U xs ++ List.replicate (xs.length + m - (U xs).length) (Value.int IntKind.u8 0) := by
      simp [putTo, be, U]
    rw [e]; exact hown2
  clear hown hs1 hb1 hgrow2 hsz2
  go_wp2
  go_loopw [28] (fun i wr => ∃ k : Nat, k ≤ m ∧ i = .int .i64 k ∧ wr.ownsRow w.heap.size 5 1 (.slice (some ⟨w.heap.size, 0, none⟩) (xs.length + m) (xs.length + m)) (xs.length + m) (U (putTo xs n m k)) ∧ Below w.heap.size w wr) (fun i _ => m - (intOf i).toNat)
  case atStart => exact ⟨0, Nat.zero_le _, rfl, hown2, hb2⟩
  case round =>
    obtain ⟨k, hk, rfl, ho, hb⟩ := hrel
    by_cases hlt : k < m
    · have hst := ho.stored (xs.length + m - 1 - k) (.int .u8 (n / 2 ^ (8 * k) % 256))
      have hfr := ho.frozenAt (xs.length + m - 1 - k)
      have hce : ∃ u, wr.cell? ⟨w.heap.size, xs.length + m - 1 - k, none⟩ = some u := by
        rw [ho.cellAt _ (by omega)]
        exact ⟨_, List.getElem?_eq_getElem (by rw [U_length, putTo_length _ _ _ _ hk]; omega)⟩
      obtain ⟨u, hce⟩ := hce
      rw [two_pow, putTo_step _ _ _ _ hlt, ← two_pow] at hst
      go_wp2
      exact ⟨⟨k + 1, by omega, by go_num, hst.1, hb.setCell (Nat.le_refl _) _⟩, by simp [intOf]; omega⟩
    · obtain rfl : k = m := by omega
      go_wp2
      go_ret2
      refine ⟨_, rfl, ?_, hb⟩
      have e : putTo xs n k k = xs ++ be n k := by simp [putTo]
      rw [e] at ho
      exact ho

theorem put_bad (v : Value) (n x : Int) (w : World) (h0 : 0 ≤ n) (hn : n < 18446744073709551616) (hf : ¬ (1 ≤ x ∧ x ≤ 8 ∧ fitsB n x = true)) :
    Calls Try.prog 19 #[v, .int .u64 n, .int .i64 x] w fun e w' => e = .returned (.tuple #[.slice none 0 0, .int .i64 1]) ∧ w = w' := by
  by_cases h1 : 1 ≤ x ∧ x ≤ 8
  · have hf' : fitsB n x = false := by
      cases h : fitsB n x with
      | false => rfl
      | true => exact absurd ⟨h1.1, h1.2, h⟩ hf
    obtain ⟨h1, h2⟩ := h1
    clear hf
    go_enter Try.func19, Try.ntmps19
    go_wp2_with (first
      | (go_at_call 23; refine (isWidth_yes _ _ (by omega) (by omega)).mono ?_; rintro e w' ⟨rfl, rfl⟩)
      | (go_at_call 25; refine (fits_any _ _ _ h0 hn (by omega) (by omega)).mono ?_; rw [hf']; rintro e w' ⟨rfl, rfl⟩))
    go_ret2
    exact ⟨rfl, rfl⟩
  · have h1 : x < 1 ∨ 8 < x := by omega
    clear hf
    go_enter Try.func19, Try.ntmps19
    go_wp2_with (first
      | (go_at_call 23; refine (isWidth_no _ _ h1).mono ?_; rintro e w' ⟨rfl, rfl⟩))
    go_ret2
    exact ⟨rfl, rfl⟩

theorem alive_true (w : World) : Calls Try.prog 8 #[] w fun e w' => e = .returned (.bool true) ∧ Below w.heap.size w w' := by
  go_enter Try.func8, Try.ntmps8
  go_wp2_with fail
  refine (put_ok _ [] 258 3 w (SlV.nil w) (by simp) (by omega) (by omega) (by omega) (by omega) (by decide)).mono ?_
  rintro e w1 ⟨v', rfl, ho, hb⟩
  have hstr := run_string (P := Try.prog) w1 22 9 5 Try.underlying22 Try.underlying5 Try.underlying9 v' _ (SlV.ofOwn ho)
  go_wp2_with fail
  refine (put_bad _ 256 1 w1 (by omega) (by omega) (by decide)).mono ?_
  rintro e w2 ⟨rfl, rfl⟩
  have e3 : strOfNums ([] ++ be 258 (3 : Int).toNat) = ⟨#[0, 1, 2]⟩ := by decide
  rw [e3] at hstr
  go_wp2
  go_ret
  exact ⟨rfl, hb⟩

theorem fits_lt {n x : Int} (h0 : 0 ≤ n) (h1 : 1 ≤ x) (h2 : x < 8) (hf : fitsB n x = true) : n < IntKind.u64.wrap (2 ^ (8 * x).toNat) := by
  have hx : x = 1 ∨ x = 2 ∨ x = 3 ∨ x = 4 ∨ x = 5 ∨ x = 6 ∨ x = 7 := by omega
  unfold fitsB at hf
  rw [IntKind.wrap_u64]
  rcases hx with rfl | rfl | rfl | rfl | rfl | rfl | rfl <;> simp at hf ⊢ <;> omega
theorem fits_ge {n x : Int} (h0 : 0 ≤ n) (h1 : 1 ≤ x) (h2 : x < 8) (hf : fitsB n x = false) : IntKind.u64.wrap (2 ^ (8 * x).toNat) ≤ n := by
  have hx : x = 1 ∨ x = 2 ∨ x = 3 ∨ x = 4 ∨ x = 5 ∨ x = 6 ∨ x = 7 := by omega
  unfold fitsB at hf
  rw [IntKind.wrap_u64]
  rcases hx with rfl | rfl | rfl | rfl | rfl | rfl | rfl <;> simp at hf ⊢ <;> omega
theorem fits_8 {n : Int} (h0 : 0 ≤ n) (hn : n < 18446744073709551616) : fitsB n 8 = true := by
  unfold fitsB; simp; omega
theorem be_get (n : Int) (m k : Nat) (h : k < m) : (be n m)[k]? = some (n / 256 ^ (m - 1 - k) % 256) := by
  induction m generalizing k with
  | zero => omega
  | succ m ih =>
    rw [be_cons]
    cases k with
    | zero => simp
    | succ k => rw [List.getElem?_cons_succ, ih k (by omega)]; congr 4; omega
theorem be_take (n : Int) (m k : Nat) (h : k < m) : (be n m).take (k + 1) = (be n m).take k ++ [n / 256 ^ (m - 1 - k) % 256] := by
  rw [List.take_add_one, be_get n m k h]; rfl

set_option maxHeartbeats 400000 in
theorem refput_ok (v : Value) (xs : List Int) (n x : Int) (w : World) (hs : SlV w v (U xs)) (hm : xs.length ≤ 1000000) (h0 : 0 ≤ n) (hn : n < 18446744073709551616) (h1 : 1 ≤ x) (h2 : x ≤ 8) (hf : fitsB n x = true) :
    Calls Try.prog 20 #[v, .int .u64 n, .int .i64 x] w fun e w' => ∃ v', e = .returned (.tuple #[v', .int .i64 0]) ∧ w'.ownsRow w.heap.size 5 1 v' (xs.length + x.toNat) (U (xs ++ be n x.toNat)) ∧ Below w.heap.size w w' := by
  obtain ⟨a, cap, hv, hc, hcm⟩ := hs.shape
  subst hv
  rw [U_length] at *
  have d1 : decide (x < 1) = false := by simp; omega
  have d2 : decide (8 < x) = false := by simp; omega
  have d3 : (decide (x < 8) = true ∧ n < IntKind.u64.wrap (2 ^ (8 * x).toNat)) ∨ (decide (x < 8) = false ∧ x = x) := by
    by_cases h : x < 8
    · exact .inl ⟨by simp [h], fits_lt h0 h1 h hf⟩
    · exact .inr ⟨by simp [h], rfl⟩
  clear hf
  obtain ⟨m, hxm⟩ := Int.eq_ofNat_of_zero_le (show 0 ≤ x by omega)
  subst hxm
  have hnat : (8 * (m : Int)).toNat = 8 * m := by omega
  rw [hnat] at d3
  clear hnat
  rcases d3 with ⟨d3, d4⟩ | ⟨d3, -⟩
  all_goals
    go_enter Try.func20, Try.ntmps20
    go_wp2_with (at_builtin; refine wpList_append_sl rfl (.tmp 28) (.tmp 29) 22 rfl w.heap.size 5 _ 1 Try.underlying22 Try.info5 rfl _ 0 [] rfl (own_empty _ _ _ (Nat.le_refl _)) _ (U xs) rfl (by exact hs.below ((Below.refl _ _).alloc (Nat.le_refl _) _)) (U_one _) (by rw [U_length]; unfold maxLen; omega) (by rw [U_length]; omega) (by simp) ?_)
    intro v1 w1 ho1 hg1
    have hb1 : Below w.heap.size w w1 := grown_below ((Below.refl _ _).alloc (Nat.le_refl _) _) (Nat.le_refl _) hg1 (by simp [Value.ownBlock])
    have ho1 : w1.ownsRow w.heap.size 5 1 v1 (xs.length + 0) (U (xs ++ (be n m).take 0)) := by simpa [U_length] using ho1
    clear hg1
    go_wp2
    go_loopw [8, 9] (fun v i wr => ∃ k : Nat, k ≤ m ∧ i = .int .i64 ((m : Int) - 1 - k) ∧ wr.ownsRow w.heap.size 5 1 v (xs.length + k) (U (xs ++ (be n m).take k)) ∧ Below w.heap.size w wr) (fun _ i _ => (intOf i + 1).toNat)
    case atStart => exact ⟨0, Nat.zero_le _, by go_num, ho1, hb1⟩
    case round =>
      obtain ⟨k, hk, rfl, ho, hb⟩ := hrel
      by_cases hlt : k < m
      · go_wp2_with (at_builtin; refine wpList_append_sl rfl (.tmp 37) (.tmp 44) 22 rfl w.heap.size 5 _ 1 Try.underlying22 Try.info5 rfl _ (xs.length + k) _ rfl (ho.alloc _) _ _ rfl (SlV_one _ _ _) ?h1 (by simp; unfold maxLen; omega) (by simp; omega) (by have := hb.size; simp; omega) ?_)
        case h1 => intro u hu; simp at hu; subst hu; rfl
        intro v2 w2 ho2 hg2
        have hb2 : Below w.heap.size w w2 := grown_below (hb.alloc hb.size _) (Nat.le_refl _) hg2 (fun k e => (ho.lt k e).1)
        have ho2 : w2.ownsRow w.heap.size 5 1 v2 (xs.length + (k + 1)) (U (xs ++ (be n m).take (k + 1))) := by
          rw [be_take n m k hlt, ← List.append_assoc, U_append, ← two_pow]
          exact ho2
        clear hg2 ho hb
        go_wp2
        exact ⟨⟨k + 1, by omega, by go_num, ho2, hb2⟩, by simp [intOf]; omega⟩
      · obtain rfl : k = m := by omega
        go_wp2
        go_ret2
        refine ⟨_, rfl, ?_, hb⟩
        have e : (be n k).take k = be n k := List.take_of_length_le (by rw [be_length]; exact Nat.le_refl _)
        rw [e] at ho
        exact ho

theorem refput_bad (v : Value) (n x : Int) (w : World) (h0 : 0 ≤ n) (hn : n < 18446744073709551616) (hf : ¬ (1 ≤ x ∧ x ≤ 8 ∧ fitsB n x = true)) :
    Calls Try.prog 20 #[v, .int .u64 n, .int .i64 x] w fun e w' => e = .returned (.tuple #[.slice none 0 0, .int .i64 1]) ∧ w = w' := by
  by_cases h1 : x < 1
  · have d1 : decide (x < 1) = true := by simp; omega
    clear hf
    go_enter Try.func20, Try.ntmps20
    go_wp2
    go_ret2
    exact ⟨rfl, rfl⟩
  by_cases h2 : 8 < x
  · have d1 : decide (x < 1) = false := by simp; omega
    have d2 : decide (8 < x) = true := by simp; omega
    clear hf
    go_enter Try.func20, Try.ntmps20
    go_wp2
    go_ret2
    exact ⟨rfl, rfl⟩
  have hf' : fitsB n x = false := by
    cases h : fitsB n x with
    | false => rfl
    | true => exact absurd ⟨by omega, by omega, h⟩ hf
  have h8 : x < 8 := by
    by_cases h : x = 8
    · subst h; rw [fits_8 h0 hn] at hf'; cases hf'
    · omega
  have d4 := fits_ge h0 (by omega) h8 hf'
  have d1 : decide (x < 1) = false := by simp; omega
  have d2 : decide (8 < x) = false := by simp; omega
  have d3 : decide (x < 8) = true := by simp; omega
  clear hf hf'
  go_enter Try.func20, Try.ntmps20
  go_wp2
  go_ret2
  exact ⟨rfl, rfl⟩

/-- What Put answers: the bytes, the error. -/
def putGood (n x : Int) : Bool := decide (1 ≤ x) && decide (x ≤ 8) && fitsB n x
def putL (xs : List Int) (n x : Int) : List Int := if putGood n x = true then xs ++ be n x.toNat else []
def putE (n x : Int) : Int := if putGood n x = true then 0 else 1
theorem putGood_iff (n x : Int) : putGood n x = true ↔ (1 ≤ x ∧ x ≤ 8 ∧ fitsB n x = true) := by simp [putGood, and_assoc]
theorem putL_byt {xs : List Int} (h : Byt xs) (n x : Int) : Byt (putL xs n x) := by
  unfold putL; split
  · exact h.append (be_byt _ _)
  · exact Byt.nil

theorem put_any (v : Value) (xs : List Int) (n x : Int) (w : World) (hs : SlV w v (U xs)) (hm : xs.length ≤ 1000000) (h0 : 0 ≤ n) (hn : n < 18446744073709551616) :
    Calls Try.prog 19 #[v, .int .u64 n, .int .i64 x] w fun e w' => ∃ v', e = .returned (.tuple #[v', .int .i64 (putE n x)]) ∧ SlV w' v' (U (putL xs n x)) ∧ Below w.heap.size w w' := by
  by_cases h : putGood n x = true
  · have h' := (putGood_iff n x).1 h
    refine (put_ok v xs n x w hs hm h0 hn h'.1 h'.2.1 h'.2.2).mono ?_
    rintro e w' ⟨v', rfl, ho, hb⟩
    refine ⟨v', by simp [putE, h], ?_, hb⟩
    simp only [putL, h, if_true]
    exact SlV.ofOwn ho
  · refine (put_bad v n x w h0 hn (fun k => h ((putGood_iff n x).2 k))).mono ?_
    rintro e w' ⟨rfl, rfl⟩
    refine ⟨.slice none 0 0, by simp [putE, h], ?_, Below.refl _ _⟩
    simp only [putL, h]
    exact SlV.nil _
theorem refput_any (v : Value) (xs : List Int) (n x : Int) (w : World) (hs : SlV w v (U xs)) (hm : xs.length ≤ 1000000) (h0 : 0 ≤ n) (hn : n < 18446744073709551616) :
    Calls Try.prog 20 #[v, .int .u64 n, .int .i64 x] w fun e w' => ∃ v', e = .returned (.tuple #[v', .int .i64 (putE n x)]) ∧ SlV w' v' (U (putL xs n x)) ∧ Below w.heap.size w w' := by
  by_cases h : putGood n x = true
  · have h' := (putGood_iff n x).1 h
    refine (refput_ok v xs n x w hs hm h0 hn h'.1 h'.2.1 h'.2.2).mono ?_
    rintro e w' ⟨v', rfl, ho, hb⟩
    refine ⟨v', by simp [putE, h], ?_, hb⟩
    simp only [putL, h, if_true]
    exact SlV.ofOwn ho
  · refine (refput_bad v n x w h0 hn (fun k => h ((putGood_iff n x).2 k))).mono ?_
    rintro e w' ⟨rfl, rfl⟩
    refine ⟨.slice none 0 0, by simp [putE, h], ?_, Below.refl _ _⟩
    simp only [putL, h]
    exact SlV.nil _
theorem str_run {w : World} {v : Value} {xs : List Int} (h : SlV w v (U xs)) : (convert 22 9 v).run Try.prog w = .ok (.string (strOfNums xs)) w :=
  run_string w 22 9 5 Try.underlying22 Try.underlying5 Try.underlying9 v xs h

end Go.Proofs.Ytcdkphkgjimamaa
