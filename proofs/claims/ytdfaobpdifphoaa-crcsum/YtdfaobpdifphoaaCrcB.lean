/-
  Contracts of Bytes and Read, of the document's, and of the live question, over this seat's translation. Conditions: each as it says.
-/
import Derived.Test.YtdfaobpdifphoaaCrcW
import Derived.Test.YtdfaobpdifphoaaKit3
namespace Go.Proofs.Ytdfaobpdifphoaa
open Go.RowKit
set_option linter.unusedVariables false

theorem Try.info5 : (Try.prog.info? 5).map (fun i => (i.zero, i.size, i.bytes)) = some (some (.int .u8 0), 1, 1) := by kernel_rfl
/-- A sum's three bytes. -/
def hi (c : Nat) : Int := (c : Int) / 65536 % 256
def mid (c : Nat) : Int := (c : Int) / 256 % 256
def lo (c : Nat) : Int := (c : Int) % 256
abbrev three (a b c : Int) : Value := .agg #[.int .u8 a, .int .u8 b, .int .u8 c]

theorem bytes_any (c : Nat) (hc : c < 4294967296) (w : World) :
    Calls Try.prog 12 #[.int .u32 c] w fun e w' => e = .returned (three (hi c) (mid c) (lo c)) ∧ Below w.heap.size w w' := by
  go_enter Try.func12, Try.ntmps12
  go_wp2
  exact bodyPost_ret (v := three (hi c) (mid c) (lo c)) (by simp [results, Try.results12, go_sem, hi, mid, lo]) rfl ⟨rfl, (Below.refl _ _).alloc (Nat.le_refl _) _⟩
theorem refbytes_any (c : Nat) (hc : c < 4294967296) (w : World) :
    Calls Try.prog 13 #[.int .u32 c] w fun e w' => e = .returned (three (hi c) (mid c) (lo c)) ∧ Below w.heap.size w w' := by
  go_enter Try.func13, Try.ntmps13
  go_wp2
  exact bodyPost_ret (v := three (hi c) (mid c) (lo c)) (by simp [results, Try.results13, go_sem, hi, mid, lo]) rfl ⟨rfl, (Below.refl _ _).alloc (Nat.le_refl _) _⟩
theorem or_three (a b c : Int) (ha : 0 ≤ a ∧ a ≤ 255) (hb : 0 ≤ b ∧ b ≤ 255) (hc : 0 ≤ c ∧ c ≤ 255) : bits .or .u32 (bits .or .u32 (a * 65536) (b * 256)) c = a * 65536 + b * 256 + c := by
  have h1 := or32 16 a (b * 256) ha.1 (by omega) (by omega) (by omega)
  have h2 := or32 8 (a * 256 + b) c (by omega) hc.1 (by omega) (by omega)
  rw [show (2 : Int) ^ 16 = 65536 from rfl] at h1
  rw [show (2 : Int) ^ 8 = 256 from rfl] at h2
  rw [h1, show a * 65536 + b * 256 = (a * 256 + b) * 256 by omega, h2]
theorem read_any (a b c : Int) (ha : 0 ≤ a ∧ a ≤ 255) (hb : 0 ≤ b ∧ b ≤ 255) (hc : 0 ≤ c ∧ c ≤ 255) (w : World) :
    Calls Try.prog 14 #[three a b c] w fun e w' => e = .returned (.int .u32 (a * 65536 + b * 256 + c)) ∧ Below w.heap.size w w' := by
  go_enter Try.func14, Try.ntmps14
  go_wp2
  go_ret
  exact ⟨ret_int (or_three a b c ha hb hc), (Below.refl _ _).alloc (Nat.le_refl _) _⟩
theorem refread_any (a b c : Int) (ha : 0 ≤ a ∧ a ≤ 255) (hb : 0 ≤ b ∧ b ≤ 255) (hc : 0 ≤ c ∧ c ≤ 255) (w : World) :
    Calls Try.prog 15 #[three a b c] w fun e w' => e = .returned (.int .u32 (a * 65536 + b * 256 + c)) ∧ Below w.heap.size w w' := by
  go_enter Try.func15, Try.ntmps15
  go_wp2
  go_ret
  exact ⟨ret_int (by omega), (Below.refl _ _).alloc (Nat.le_refl _) _⟩
theorem eq_three (w : World) (a b c a' b' c' : Int) : (Op.equalIn 10000 28 (three a b c) (three a' b' c')).run Try.prog w = .ok (decide ([a, b, c] = [a', b', c'])) w := by
  obtain ⟨i0, hi, _⟩ := info_parts Try.info5
  exact run_equal_ints w 9998 Try.underlying28 (by kernel_rfl) Try.underlying5 hi (by kernel_rfl) [a, b, c] [a', b', c'] rfl rfl
theorem alive_true (w : World) : Calls Try.prog 7 #[] w fun e w' => e = .returned (.bool true) ∧ Below w.heap.size w w' := by
  go_enter Try.func7, Try.ntmps7
  go_wp2_with fail
  refine (sum_any _ [] w (SlV.nil w) Byt.nil).mono ?_
  rintro _ w1 ⟨rfl, rfl⟩
  rw [show go 11994318 (nats []) = 11994318 from rfl]
  go_wp2_with fail
  refine (bytes_any 66051 (by decide) w).mono ?_
  rintro _ w1 ⟨rfl, hb1⟩
  rw [show hi 66051 = 1 from rfl, show mid 66051 = 2 from rfl, show lo 66051 = 3 from rfl]
  have he := eq_three w1 1 2 3 1 2 3
  rw [show decide (([1, 2, 3] : List Int) = [1, 2, 3]) = true from rfl] at he
  go_wp2_with fail
  refine (read_any 1 2 3 (by decide) (by decide) (by decide) w1).mono ?_
  rintro _ w2 ⟨rfl, hb2⟩
  have hb2 : Below w.heap.size w w2 := hb1.trans (hb2.mono hb1.size)
  clear hb1
  go_wp2
  go_ret
  exact ⟨rfl, hb2⟩
theorem str_run {w : World} {v : Value} {xs : List Int} (h : SlV w v (U xs)) : (convert 23 9 v).run Try.prog w = .ok (.string (strOfNums xs)) w :=
  run_string w 23 9 5 Try.underlying23 Try.underlying5 Try.underlying9 v xs h
theorem nat_u32 {a : Int} (h : (Lit.int .u32 a).wf = true) : ∃ c : Nat, a = c ∧ c < 4294967296 := by
  simp [Lit.wf, IntKind.min, IntKind.max, IntKind.signed, IntKind.bits] at h
  exact ⟨a.toNat, by omega, by omega⟩
theorem nats_append (xs ys : List Int) : nats (xs ++ ys) = nats xs ++ nats ys := by simp [nats]
theorem U_set (xs : List Int) (k : Nat) (y : Int) : (U xs).set k (.int .u8 y) = U (xs.set k y) := by simp [U, List.map_set]
theorem byt_set {xs : List Int} {k : Nat} {y : Int} (h : Byt xs) (hy : 0 ≤ y ∧ y ≤ 255) : Byt (xs.set k y) := by
  intro n hn
  rcases List.mem_or_eq_of_mem_set hn with h1 | rfl
  · exact h n h1
  · exact hy
/-- Another byte: it is a byte, and another one. -/
theorem xor_u8 (x y : Int) (hx : 0 ≤ x ∧ x ≤ 255) (hy : 0 ≤ y ∧ y ≤ 255) (h : ¬ y = 0) : (0 ≤ bits .xor .u8 x y ∧ bits .xor .u8 x y ≤ 255) ∧ bits .xor .u8 x y ≠ x := by
  obtain ⟨a, rfl⟩ := Int.eq_ofNat_of_zero_le hx.1
  obtain ⟨b, rfl⟩ := Int.eq_ofNat_of_zero_le hy.1
  rw [u8_xor_nat a b (by omega) (by omega)]
  have hl : a ^^^ b < 2 ^ 8 := Nat.xor_lt_two_pow (by omega) (by omega)
  refine ⟨by omega, fun e => h ?_⟩
  have e : a ^^^ b = a ^^^ 0 := by rw [Nat.xor_zero]; omega
  have := xor_left e
  omega
theorem sum_ne {xs : List Int} {k : Nat} {y : Int} (hk : k < xs.length) (hb : Byt xs) (hy : 0 ≤ y ∧ y ≤ 255) (h : y ≠ xs.getD k 0) : go 11994318 (nats (xs.set k y)) ≠ go 11994318 (nats xs) := by
  have e : nats (xs.set k y) = (nats xs).set k y.toNat := by simp [nats, List.map_set]
  rw [e]
  refine go_one (by rw [nats_length]; exact hk) ?_
  have hx := hb.get k hk
  simp only [List.getD, List.getElem?_eq_getElem hk, Option.getD_some] at h
  simp only [nats, List.getElem_map]
  omega
end Go.Proofs.Ytdfaobpdifphoaa
