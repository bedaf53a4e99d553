/-
  The mathematics of the first hash, over natural numbers: rotations, the words of a block, the steps, blocks one behind the other, the padding. Over no program.
-/
import Derived.Test.YtmbaenodibfedaaDoorKit4
namespace Go.Proofs.YtmbaenodibfedaaDoor.S1
set_option linter.unusedVariables false

/-- Rotated by k (32 bits). -/
def rot (k x : Nat) : Nat := (x * 2 ^ k % 4294967296) ||| (x / 2 ^ (32 - k))
/-- f of a step. -/
def F1 (t b c d : Nat) : Nat :=
  if t < 20 then (b &&& c) ||| ((b ^^^ 4294967295) &&& d) else if t < 40 then b ^^^ c ^^^ d else if t < 60 then (b &&& c) ||| (b &&& d) ||| (c &&& d) else b ^^^ c ^^^ d
/-- k of a step. -/
def K1 (t : Nat) : Nat := if t < 20 then 1518500249 else if t < 40 then 1859775393 else if t < 60 then 2400959708 else 3395469782
/-- Five numbers. -/
structure S5 where
  a : Nat
  b : Nat
  c : Nat
  d : Nat
  e : Nat
def S5.ok (s : S5) : Prop := s.a < 4294967296 ∧ s.b < 4294967296 ∧ s.c < 4294967296 ∧ s.d < 4294967296 ∧ s.e < 4294967296
def S5.list (s : S5) : List Nat := [s.a, s.b, s.c, s.d, s.e]
/-- One step. -/
def stp1 (t x : Nat) (s : S5) : S5 := ⟨(rot 5 s.a + F1 t s.b s.c s.d + s.e + K1 t + x) % 4294967296, s.a, rot 30 s.b, s.c, s.d⟩
/-- The first k steps. -/
def stps1 (ws : List Nat) (s : S5) : Nat → S5
  | 0 => s
  | k + 1 => stp1 k (ws.getD k 0) (stps1 ws s k)
def add1 (s t : S5) : S5 := ⟨(s.a + t.a) % 4294967296, (s.b + t.b) % 4294967296, (s.c + t.c) % 4294967296, (s.d + t.d) % 4294967296, (s.e + t.e) % 4294967296⟩
/-- The t-th number of four bytes. -/
def wd (b : List Nat) (t : Nat) : Nat := b.getD (4 * t) 0 * 16777216 + b.getD (4 * t + 1) 0 * 65536 + b.getD (4 * t + 2) 0 * 256 + b.getD (4 * t + 3) 0
/-- The next word. -/
def nxt1 (ws : List Nat) (t : Nat) : Nat := rot 1 (ws.getD (t - 3) 0 ^^^ ws.getD (t - 8) 0 ^^^ ws.getD (t - 14) 0 ^^^ ws.getD (t - 16) 0)
/-- The first t words. -/
def sch1 (b : List Nat) : Nat → List Nat
  | 0 => []
  | t + 1 => sch1 b t ++ [if t < 16 then wd b t else nxt1 (sch1 b t) t]
/-- The numbers behind a block. -/
def blk1 (s : S5) (b : List Nat) : S5 := add1 s (stps1 (sch1 b 80) s 80)
/-- The numbers behind n blocks. -/
def blks1 (s : S5) (p : List Nat) : Nat → S5
  | 0 => s
  | n + 1 => blk1 (blks1 s p n) ((p.drop (64 * n)).take 64)
def start1 : S5 := ⟨1732584193, 4023233417, 2562383102, 271733878, 3285377520⟩
/-- The k-th byte of a number of 64 bits, the lowest first. -/
def be (n i : Nat) : Nat := n / 2 ^ (8 * i) % 256
def be8 (n : Nat) : List Nat := [be n 7, be n 6, be n 5, be n 4, be n 3, be n 2, be n 1, be n 0]
/-- How many noughts. -/
def zs1 (n : Nat) : Nat := (119 - n % 64) % 64
def pad1 (b : List Nat) : List Nat := b ++ 128 :: (List.replicate (zs1 b.length) 0 ++ be8 (8 * b.length % 18446744073709551616))
def out4 (x : Nat) : List Nat := [x / 16777216 % 256, x / 65536 % 256, x / 256 % 256, x % 256]
def out1 (s : S5) : List Nat := out4 s.a ++ out4 s.b ++ out4 s.c ++ out4 s.d ++ out4 s.e
def sum1 (b : List Nat) : List Nat := out1 (blks1 start1 (pad1 b) ((pad1 b).length / 64))

theorem sum1_abc : sum1 [97, 98, 99] = [0xa9, 0x99, 0x3e, 0x36, 0x47, 0x06, 0x81, 0x6a, 0xba, 0x3e, 0x25, 0x71, 0x78, 0x50, 0xc2, 0x6c, 0x9c, 0xd0, 0xd8, 0x9d] := by decide +kernel

theorem or_lt32 {a b : Nat} (ha : a < 4294967296) (hb : b < 4294967296) : a ||| b < 4294967296 := Nat.or_lt_two_pow (n := 32) ha hb
theorem and_lt32 {a b : Nat} (ha : a < 4294967296) : a &&& b < 4294967296 := Nat.lt_of_le_of_lt Nat.and_le_left ha
theorem xor_lt32 {a b : Nat} (ha : a < 4294967296) (hb : b < 4294967296) : a ^^^ b < 4294967296 := Nat.xor_lt_two_pow (n := 32) ha hb
theorem shr_lt32 {x : Nat} (hx : x < 4294967296) (k : Nat) : x / 2 ^ k < 4294967296 := Nat.lt_of_le_of_lt (Nat.div_le_self _ _) hx
theorem mod_lt32 (x : Nat) : x % 4294967296 < 4294967296 := Nat.mod_lt _ (by decide)
theorem rot_lt {x : Nat} (hx : x < 4294967296) (k : Nat) : rot k x < 4294967296 := or_lt32 (mod_lt32 _) (shr_lt32 hx _)
theorem F1_lt {t b c d : Nat} (hb : b < 4294967296) (hc : c < 4294967296) (hd : d < 4294967296) : F1 t b c d < 4294967296 := by
  unfold F1
  split
  · exact or_lt32 (and_lt32 hb) (and_lt32 (xor_lt32 hb (by decide)))
  · split
    · exact xor_lt32 (xor_lt32 hb hc) hd
    · split
      · exact or_lt32 (or_lt32 (and_lt32 hb) (and_lt32 hb)) (and_lt32 hc)
      · exact xor_lt32 (xor_lt32 hb hc) hd
theorem K1_lt (t : Nat) : K1 t < 4294967296 := by
  unfold K1
  split
  · decide
  · split
    · decide
    · split <;> decide
theorem stp1_ok {t x : Nat} {s : S5} (h : s.ok) : (stp1 t x s).ok := ⟨mod_lt32 _, h.1, rot_lt h.2.1 30, h.2.2.1, h.2.2.2.1⟩
theorem stps1_ok {ws : List Nat} {s : S5} (h : s.ok) (k : Nat) : (stps1 ws s k).ok := by
  induction k with
  | zero => exact h
  | succ k ih => exact stp1_ok ih
theorem add1_ok (s t : S5) : (add1 s t).ok := ⟨mod_lt32 _, mod_lt32 _, mod_lt32 _, mod_lt32 _, mod_lt32 _⟩
theorem blk1_ok (s : S5) (b : List Nat) : (blk1 s b).ok := add1_ok _ _
theorem start1_ok : start1.ok := by refine ⟨?_, ?_, ?_, ?_, ?_⟩ <;> decide
theorem blks1_ok {s : S5} (h : s.ok) (p : List Nat) (n : Nat) : (blks1 s p n).ok := by
  cases n with
  | zero => exact h
  | succ n => exact blk1_ok _ _
theorem wd_lt {b : List Nat} (h : Lo 256 b) (t : Nat) : wd b t < 4294967296 := by
  have h0 := h.getD (by decide) (4 * t)
  have h1 := h.getD (by decide) (4 * t + 1)
  have h2 := h.getD (by decide) (4 * t + 2)
  have h3 := h.getD (by decide) (4 * t + 3)
  unfold wd; omega
theorem sch1_length (b : List Nat) (t : Nat) : (sch1 b t).length = t := by
  induction t with
  | zero => rfl
  | succ t ih => simp [sch1, ih]
theorem sch1_lo {b : List Nat} (h : Lo 256 b) (t : Nat) : Lo 4294967296 (sch1 b t) := by
  induction t with
  | zero => exact Lo.nil _
  | succ t ih =>
    refine ih.append ?_
    intro x hx
    rw [List.mem_singleton] at hx
    subst hx
    split
    · exact wd_lt h t
    · have g := ih.getD (by decide)
      exact rot_lt (xor_lt32 (xor_lt32 (xor_lt32 (g _) (g _)) (g _)) (g _)) 1
/-- Rotation, as the operations write it. -/
theorem rot_eq (x k : Nat) (hx : x < 4294967296) : bits .or .u32 ((x : Int) * 2 ^ k % 4294967296) ((x : Int) / 2 ^ (32 - k)) = (rot k x : Nat) := by
  have e1 : (x : Int) * 2 ^ k % 4294967296 = ((x * 2 ^ k % 4294967296 : Nat) : Int) := by simp
  have e2 : (x : Int) / 2 ^ (32 - k) = ((x / 2 ^ (32 - k) : Nat) : Int) := by simp
  rw [e1, e2, u32_or_nat _ _ (mod_lt32 _) (shr_lt32 hx _), rot]
theorem not32 (b : Nat) (hb : b < 4294967296) : bits .xor .u32 IntKind.u32.max (b : Int) = ((b ^^^ 4294967295 : Nat) : Int) := by
  rw [show IntKind.u32.max = ((4294967295 : Nat) : Int) by simp [IntKind.max, IntKind.signed, IntKind.bits], u32_xor_nat _ _ (by decide) hb, Nat.xor_comm]
end Go.Proofs.YtmbaenodibfedaaDoor.S1
