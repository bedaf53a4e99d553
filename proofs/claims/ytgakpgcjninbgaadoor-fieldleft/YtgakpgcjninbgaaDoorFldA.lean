/-
  Contracts of the words' operations (sums and differences with a carry, products), over this seat's translation. Conditions: each as it says.
-/
import Derived.Test.YtgakpgcjninbgaaDoorFldW
import Derived.Test.YtgakpgcjninbgaaDoorKit8
import Derived.Test.YtgakpgcjninbgaaDoorRows
import Derived.Deep.RegionHeld3
import Derived.Deep.DeepCutAuto
import Derived.Deep.Cut
import Derived.Laws.BitsAllLaws
import Derived.Laws.Externs
namespace Go.Proofs.YtgakpgcjninbgaaDoor.F
open Go.RowKit
set_option linter.unusedVariables false
set_option maxRecDepth 10000

/-- An array of four words. -/
def el (n : Nat) : Value := .agg (C .u64 (wds n)).toArray
theorem z4 (w : World) : (zeroValue 24).run Tryd.prog w = .ok (.agg (C .u64 (Z 4)).toArray) w := by kernel_rfl
theorem z4' (w : World) : (zeroValue 55).run Tryd.prog w = .ok (.agg (C .u64 (Z 8)).toArray) w := by kernel_rfl
theorem z16 (w : World) : (zeroValue 57).run Tryd.prog w = .ok (.agg (C .u64 (Z 16)).toArray) w := by kernel_rfl
theorem z32 (w : World) : (zeroValue 32).run Tryd.prog w = .ok (.agg (C .u8 (Z 32)).toArray) w := by kernel_rfl
theorem i4 : (Tryd.prog.info? 24).map (·.size) = some 4 := by kernel_rfl
theorem i8 : (Tryd.prog.info? 55).map (·.size) = some 8 := by kernel_rfl
theorem i16 : (Tryd.prog.info? 57).map (·.size) = some 16 := by kernel_rfl
theorem i32 : (Tryd.prog.info? 32).map (·.size) = some 32 := by kernel_rfl
theorem i1w : (Tryd.prog.info? 22).map (·.size) = some 1 := by kernel_rfl
theorem i1b : (Tryd.prog.info? 5).map (·.size) = some 1 := by kernel_rfl
theorem b4 : Tryd.prog.built 24 [] = some (C .u64 (Z 4)).toArray := by kernel_rfl
theorem b8 : Tryd.prog.built 55 [] = some (C .u64 (Z 8)).toArray := by kernel_rfl
theorem b16 : Tryd.prog.built 57 [] = some (C .u64 (Z 16)).toArray := by kernel_rfl
theorem b32 : Tryd.prog.built 32 [] = some (C .u8 (Z 32)).toArray := by kernel_rfl

/-- The model's entry for math/bits.Sub64. -/
def sub64E : Array Value → Sem Value := fun args => do
  let (x, y, b) ← Extern.MathBitsCarry.three "Sub64" args
  pure (Extern.MathBitsCarry.pair ((x + Extern.MathBitsCarry.m64 - y - b) % Extern.MathBitsCarry.m64) (if x < y + b then 1 else 0))
theorem run_sub64E {P : Program} (x y b : Nat) (hb : b ≤ 1) (w : World) :
    (sub64E #[.int .u64 x, .int .u64 y, .int .u64 b]).run P w = .ok (.tuple #[.int .u64 (((x + 18446744073709551616 - y - b) % 18446744073709551616 : Nat) : Int), .int .u64 ((if x < y + b then 1 else 0 : Nat) : Int)]) w := by
  have : b = 0 ∨ b = 1 := by omega
  rcases this with rfl | rfl <;> rfl
theorem sub64_any (x y b : Nat) (hb : b ≤ 1) {z c : Nat} (hz : (x + 18446744073709551616 - y - b) % 18446744073709551616 = z) (hc : (if x < y + b then 1 else 0) = c) (w : World) :
    (callFunc 59 #[.int .u64 (x : Int), .int .u64 (y : Int), .int .u64 (b : Int)]).run Tryd.prog w = .ok (.value (.tuple #[.int .u64 (z : Int), .int .u64 (c : Int)])) w := by
  rw [run_callFunc_extern (e := sub64E) (fn := Tryd.f59) Tryd.func59 (by kernel_rfl) (by kernel_rfl) (by kernel_rfl) (by kernel_rfl), run_sub64E x y b hb w, hz, hc]
  rfl
theorem add64_any (x y c : Nat) (hc : c ≤ 1) {z d : Nat} (hz : (x + y + c) % 18446744073709551616 = z) (hd : (x + y + c) / 18446744073709551616 = d) (w : World) :
    (callFunc 60 #[.int .u64 (x : Int), .int .u64 (y : Int), .int .u64 (c : Int)]).run Tryd.prog w = .ok (.value (.tuple #[.int .u64 (z : Int), .int .u64 (d : Int)])) w := by
  rw [run_callFunc_extern (e := add64Entry) (fn := Tryd.f60) Tryd.func60 (by kernel_rfl) (by kernel_rfl) (by kernel_rfl) (by kernel_rfl), run_add64 x y c (by omega) (by omega) (by omega) (by omega)]
  have e1 : ((x : Int) + (y : Int) + (c : Int)) % 18446744073709551616 = (z : Int) := by omega
  have e2 : ((x : Int) + (y : Int) + (c : Int)) / 18446744073709551616 = (d : Int) := by omega
  rw [e1, e2]
  rfl
theorem mul64_any (x y : Nat) (hx : x < 18446744073709551616) (hy : y < 18446744073709551616) (w : World) :
    Calls Tryd.prog 72 #[.int .u64 (x : Int), .int .u64 (y : Int)] w fun e w' => e = .returned (.tuple #[.int .u64 (x * y / 18446744073709551616 : Nat), .int .u64 (x * y % 18446744073709551616 : Nat)]) ∧ w = w' := by
  obtain ⟨x0, h0⟩ : ∃ x0, x % 4294967296 = x0 := ⟨_, rfl⟩
  obtain ⟨x1, h1⟩ : ∃ x1, x / 4294967296 = x1 := ⟨_, rfl⟩
  obtain ⟨y0, k0⟩ : ∃ y0, y % 4294967296 = y0 := ⟨_, rfl⟩
  obtain ⟨y1, k1⟩ : ∃ y1, y / 4294967296 = y1 := ⟨_, rfl⟩
  have hand : ∀ n : Nat, n < 18446744073709551616 → bits .and .u64 (n : Int) 4294967295 = ((n % 4294967296 : Nat) : Int) := fun n hn => by
    have := u64_and_nat n 4294967295 (by omega) (by decide)
    rw [show ((4294967295 : Nat) : Int) = 4294967295 from rfl] at this
    rw [this, show (4294967295 : Nat) = 2 ^ 32 - 1 from rfl, Nat.and_two_pow_sub_one_eq_mod]
  have a0 : bits .and .u64 (x : Int) 4294967295 = (x0 : Int) := by rw [hand x hx, h0]
  have a1 : bits .and .u64 (y : Int) 4294967295 = (y0 : Int) := by rw [hand y hy, k0]
  have s0 : (x : Int) / 4294967296 = (x1 : Int) := by omega
  have s1 : (y : Int) / 4294967296 = (y1 : Int) := by omega
  have lx0 : x0 < 4294967296 := by omega
  have lx1 : x1 < 4294967296 := by omega
  have ly0 : y0 < 4294967296 := by omega
  have ly1 : y1 < 4294967296 := by omega
  have hm : ∀ a b : Nat, a < 4294967296 → b < 4294967296 → a * b ≤ 18446744065119617025 := fun a b ha hb => Nat.le_trans (Nat.mul_le_mul (Nat.le_pred_of_lt ha) (Nat.le_pred_of_lt hb)) (by decide)
  have m00 := hm x0 y0 lx0 ly0
  have m10 := hm x1 y0 lx1 ly0
  have m01 := hm x0 y1 lx0 ly1
  have m11 := hm x1 y1 lx1 ly1
  have ew : x * y = x0 * y0 + 4294967296 * (x1 * y0 + x0 * y1) + 18446744073709551616 * (x1 * y1) := by
    have ex : x = x0 + 4294967296 * x1 := by omega
    have ey : y = y0 + 4294967296 * y1 := by omega
    rw [ex, ey]
    grind
  have c00 : ((x0 : Int) * (y0 : Int)) = ((x0 * y0 : Nat) : Int) := by simp
  have c10 : ((x1 : Int) * (y0 : Int)) = ((x1 * y0 : Nat) : Int) := by simp
  have c01 : ((x0 : Int) * (y1 : Int)) = ((x0 * y1 : Nat) : Int) := by simp
  have c11 : ((x1 : Int) * (y1 : Int)) = ((x1 * y1 : Nat) : Int) := by simp
  have cxy : ((x : Int) * (y : Int)) = ((x * y : Nat) : Int) := by simp
  generalize x0 * y0 = p00 at *
  generalize x1 * y0 = p10 at *
  generalize x0 * y1 = p01 at *
  generalize x1 * y1 = p11 at *
  generalize x * y = pxy at *
  obtain ⟨t1, ht1⟩ : ∃ t1, p00 / 4294967296 = t1 := ⟨_, rfl⟩
  obtain ⟨t, ht⟩ : ∃ t, p10 + t1 = t := ⟨_, rfl⟩
  obtain ⟨w1, hw1⟩ : ∃ w1, t % 4294967296 = w1 := ⟨_, rfl⟩
  obtain ⟨w2, hw2⟩ : ∃ w2, t / 4294967296 = w2 := ⟨_, rfl⟩
  obtain ⟨u, hu⟩ : ∃ u, w1 + p01 = u := ⟨_, rfl⟩
  obtain ⟨v, hv⟩ : ∃ v, u / 4294967296 = v := ⟨_, rfl⟩
  obtain ⟨q, hq⟩ : ∃ q, p11 + w2 = q := ⟨_, rfl⟩
  obtain ⟨hi, hhi⟩ : ∃ hi, pxy / 18446744073709551616 = hi := ⟨_, rfl⟩
  obtain ⟨lo, hlo⟩ : ∃ lo, pxy % 18446744073709551616 = lo := ⟨_, rfl⟩
  have e1 : IntKind.u64.wrap ((x0 : Int) * (y0 : Int)) = (p00 : Int) := by rw [c00, IntKind.wrap_u64]; omega
  have e2 : (p00 : Int) / 4294967296 = (t1 : Int) := by omega
  have e3 : IntKind.u64.wrap ((x1 : Int) * (y0 : Int)) = (p10 : Int) := by rw [c10, IntKind.wrap_u64]; omega
  have e4 : IntKind.u64.wrap ((p10 : Int) + (t1 : Int)) = (t : Int) := by rw [IntKind.wrap_u64]; omega
  have e5 : bits .and .u64 (t : Int) 4294967295 = (w1 : Int) := by rw [hand t (by omega), hw1]
  have e6 : (t : Int) / 4294967296 = (w2 : Int) := by omega
  have e7 : IntKind.u64.wrap ((x0 : Int) * (y1 : Int)) = (p01 : Int) := by rw [c01, IntKind.wrap_u64]; omega
  have e8 : IntKind.u64.wrap ((w1 : Int) + (p01 : Int)) = (u : Int) := by rw [IntKind.wrap_u64]; omega
  have e9 : (u : Int) / 4294967296 = (v : Int) := by omega
  have e10 : IntKind.u64.wrap ((x1 : Int) * (y1 : Int)) = (p11 : Int) := by rw [c11, IntKind.wrap_u64]; omega
  have e11 : IntKind.u64.wrap ((p11 : Int) + (w2 : Int)) = (q : Int) := by rw [IntKind.wrap_u64]; omega
  have e12 : IntKind.u64.wrap ((q : Int) + (v : Int)) = (hi : Int) := by rw [IntKind.wrap_u64]; omega
  have e13 : IntKind.u64.wrap ((x : Int) * (y : Int)) = (lo : Int) := by rw [cxy, IntKind.wrap_u64]; omega
  rw [hhi, hlo]
  clear hand h0 h1 k0 k1 hm m00 m10 m01 m11 ew c00 c10 c01 c11 cxy ht1 ht hw1 hw2 hu hv hq hhi hlo lx0 lx1 ly0 ly1
  go_enter Tryd.func72, Tryd.ntmps72
  go_wp2
  go_ret2
  exact ⟨rfl, rfl⟩
theorem wordProduct_any (x y m c : Nat) (hx : x < 18446744073709551616) (hy : y < 18446744073709551616) (hm : m < 18446744073709551616) (hc : c < 18446744073709551616) (w : World) :
    Calls Tryd.prog 61 #[.int .u64 (x : Int), .int .u64 (y : Int), .int .u64 (m : Int), .int .u64 (c : Int)] w fun e w' => e = .returned (.tuple #[.int .u64 ((x * y + m + c) % 18446744073709551616 : Nat), .int .u64 ((x * y + m + c) / 18446744073709551616 : Nat)]) ∧ w = w' := by
  have hp : x * y ≤ 340282366920938463426481119284349108225 := Nat.le_trans (Nat.mul_le_mul (Nat.le_pred_of_lt hx) (Nat.le_pred_of_lt hy)) (by decide)
  have r := mul64_any x y hx hy
  generalize x * y = p at *
  obtain ⟨hi, hhi⟩ : ∃ hi, p / 18446744073709551616 = hi := ⟨_, rfl⟩
  obtain ⟨lo, hlo⟩ : ∃ lo, p % 18446744073709551616 = lo := ⟨_, rfl⟩
  rw [hhi, hlo] at r
  obtain ⟨l1, h1⟩ : ∃ l1, (lo + m + 0) % 18446744073709551616 = l1 := ⟨_, rfl⟩
  obtain ⟨f1, g1⟩ : ∃ f1, (lo + m + 0) / 18446744073709551616 = f1 := ⟨_, rfl⟩
  obtain ⟨l2, h2⟩ : ∃ l2, (l1 + c + 0) % 18446744073709551616 = l2 := ⟨_, rfl⟩
  obtain ⟨f2, g2⟩ : ∃ f2, (l1 + c + 0) / 18446744073709551616 = f2 := ⟨_, rfl⟩
  have a1 := add64_any lo m 0 (by decide) h1 g1
  have a2 := add64_any l1 c 0 (by decide) h2 g2
  obtain ⟨q, hq⟩ : ∃ q, hi + f1 = q := ⟨_, rfl⟩
  obtain ⟨s, hs⟩ : ∃ s, (p + m + c) / 18446744073709551616 = s := ⟨_, rfl⟩
  obtain ⟨u, hu⟩ : ∃ u, (p + m + c) % 18446744073709551616 = u := ⟨_, rfl⟩
  have e1 : IntKind.u64.wrap ((hi : Int) + (f1 : Int)) = (q : Int) := by rw [IntKind.wrap_u64]; omega
  have e2 : IntKind.u64.wrap ((q : Int) + (f2 : Int)) = (s : Int) := by rw [IntKind.wrap_u64]; omega
  have hl : l2 = u := by omega
  rw [hs, hu]
  subst hl
  simp only [Int.natCast_zero] at a1 a2
  clear hp hhi hlo h1 g1 h2 g2 hq hs hu
  go_enter Tryd.func61, Tryd.ntmps61
  go_wp2_with fail
  refine (r _).mono ?_
  rintro _ w' ⟨rfl, rfl⟩
  go_wp2
  go_ret2
  exact ⟨rfl, rfl⟩
end Go.Proofs.YtgakpgcjninbgaaDoor.F
