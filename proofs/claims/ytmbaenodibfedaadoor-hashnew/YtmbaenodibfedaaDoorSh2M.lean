/-
  The mathematics of the second hash (SHA-224, SHA-256), over natural numbers: rotations, the words of a block, the steps, blocks one behind the other, the padding. Over no program.
-/
import Derived.Test.YtmbaenodibfedaaDoorShaM
namespace Go.Proofs.YtmbaenodibfedaaDoor.S2
open S1 (or_lt32 and_lt32 xor_lt32 shr_lt32 mod_lt32 wd wd_lt be be8 zs1 pad1 out4)
set_option linter.unusedVariables false

/-- Rotated down by n (32 bits). -/
def ror (n x : Nat) : Nat := S1.rot (32 - n) x
/-- Three rotations. -/
def tri (i j k x : Nat) : Nat := ror i x ^^^ ror j x ^^^ ror k x
/-- Two rotations and a shift. -/
def spr (i j k x : Nat) : Nat := ror i x ^^^ ror j x ^^^ (x / 2 ^ k)
def ch2 (e f g : Nat) : Nat := (e &&& f) ^^^ ((e ^^^ 4294967295) &&& g)
def mj2 (a b c : Nat) : Nat := (a &&& b) ^^^ (a &&& c) ^^^ (b &&& c)
/-- The steps' numbers. -/
def K2L : List Nat := [1116352408, 1899447441, 3049323471, 3921009573, 961987163, 1508970993, 2453635748, 2870763221, 3624381080, 310598401, 607225278, 1426881987, 1925078388, 2162078206, 2614888103, 3248222580, 3835390401, 4022224774, 264347078, 604807628, 770255983, 1249150122, 1555081692, 1996064986, 2554220882, 2821834349, 2952996808, 3210313671, 3336571891, 3584528711, 113926993, 338241895, 666307205, 773529912, 1294757372, 1396182291, 1695183700, 1986661051, 2177026350, 2456956037, 2730485921, 2820302411, 3259730800, 3345764771, 3516065817, 3600352804, 4094571909, 275423344, 430227734, 506948616, 659060556, 883997877, 958139571, 1322822218, 1537002063, 1747873779, 1955562222, 2024104815, 2227730452, 2361852424, 2428436474, 2756734187, 3204031479, 3329325298]
def K2 (t : Nat) : Nat := K2L.getD t 0
theorem K2L_length : K2L.length = 64 := rfl
theorem K2L_lo : Lo 4294967296 K2L := by
  have h : (K2L.all fun x => decide (x < 4294967296)) = true := by decide +kernel
  intro x hx
  exact of_decide_eq_true (List.all_eq_true.1 h x hx)
theorem K2_lt (t : Nat) : K2 t < 4294967296 := K2L_lo.getD (by decide) t
/-- Eight numbers. -/
structure S8 where
  a : Nat
  b : Nat
  c : Nat
  d : Nat
  e : Nat
  f : Nat
  g : Nat
  h : Nat
def S8.ok (s : S8) : Prop := s.a < 4294967296 ∧ s.b < 4294967296 ∧ s.c < 4294967296 ∧ s.d < 4294967296 ∧ s.e < 4294967296 ∧ s.f < 4294967296 ∧ s.g < 4294967296 ∧ s.h < 4294967296
def S8.list (s : S8) : List Nat := [s.a, s.b, s.c, s.d, s.e, s.f, s.g, s.h]
def t1f (t x : Nat) (s : S8) : Nat := (s.h + tri 6 11 25 s.e + ch2 s.e s.f s.g + K2 t + x) % 4294967296
def t2f (s : S8) : Nat := (tri 2 13 22 s.a + mj2 s.a s.b s.c) % 4294967296
/-- One step. -/
def stp2 (t x : Nat) (s : S8) : S8 := ⟨(t1f t x s + t2f s) % 4294967296, s.a, s.b, s.c, (s.d + t1f t x s) % 4294967296, s.e, s.f, s.g⟩
/-- The first k steps. -/
def stps2 (ws : List Nat) (s : S8) : Nat → S8
  | 0 => s
  | k + 1 => stp2 k (ws.getD k 0) (stps2 ws s k)
def add2 (s t : S8) : S8 := ⟨(s.a + t.a) % 4294967296, (s.b + t.b) % 4294967296, (s.c + t.c) % 4294967296, (s.d + t.d) % 4294967296, (s.e + t.e) % 4294967296, (s.f + t.f) % 4294967296, (s.g + t.g) % 4294967296, (s.h + t.h) % 4294967296⟩
/-- The next word. -/
def nxt2 (ws : List Nat) (t : Nat) : Nat := (spr 17 19 10 (ws.getD (t - 2) 0) + ws.getD (t - 7) 0 + spr 7 18 3 (ws.getD (t - 15) 0) + ws.getD (t - 16) 0) % 4294967296
/-- The first t words. -/
def sch2 (b : List Nat) : Nat → List Nat
  | 0 => []
  | t + 1 => sch2 b t ++ [if t < 16 then wd b t else nxt2 (sch2 b t) t]
/-- The numbers behind a block. -/
def blk2 (s : S8) (b : List Nat) : S8 := add2 s (stps2 (sch2 b 64) s 64)
/-- The numbers behind n blocks. -/
def blks2 (s : S8) (p : List Nat) : Nat → S8
  | 0 => s
  | n + 1 => blk2 (blks2 s p n) ((p.drop (64 * n)).take 64)
def startL : S8 := ⟨1779033703, 3144134277, 1013904242, 2773480762, 1359893119, 2600822924, 528734635, 1541459225⟩
def startS : S8 := ⟨3238371032, 914150663, 812702999, 4144912697, 4290775857, 1750603025, 1694076839, 3204075428⟩
def start2 (b : Bool) : S8 := if b then startL else startS
def out2 (s : S8) : List Nat := out4 s.a ++ out4 s.b ++ out4 s.c ++ out4 s.d ++ out4 s.e ++ out4 s.f ++ out4 s.g ++ out4 s.h
/-- All bytes of the hash. -/
def sum2 (b : Bool) (xs : List Nat) : List Nat := out2 (blks2 (start2 b) (pad1 xs) ((pad1 xs).length / 64))

theorem sum2_abc : sum2 true [97, 98, 99] = [186, 120, 22, 191, 143, 1, 207, 234, 65, 65, 64, 222, 93, 174, 34, 35, 176, 3, 97, 163, 150, 23, 122, 156, 180, 16, 255, 97, 242, 0, 21, 173] := by decide +kernel

theorem ror_lt {x : Nat} (hx : x < 4294967296) (n : Nat) : ror n x < 4294967296 := S1.rot_lt hx _
theorem tri_lt {x : Nat} (hx : x < 4294967296) (i j k : Nat) : tri i j k x < 4294967296 := xor_lt32 (xor_lt32 (ror_lt hx _) (ror_lt hx _)) (ror_lt hx _)
theorem spr_lt {x : Nat} (hx : x < 4294967296) (i j k : Nat) : spr i j k x < 4294967296 := xor_lt32 (xor_lt32 (ror_lt hx _) (ror_lt hx _)) (shr_lt32 hx _)
theorem ch2_lt {e f g : Nat} (he : e < 4294967296) : ch2 e f g < 4294967296 := xor_lt32 (and_lt32 he) (and_lt32 (xor_lt32 he (by decide)))
theorem mj2_lt {a b c : Nat} (ha : a < 4294967296) (hb : b < 4294967296) : mj2 a b c < 4294967296 := xor_lt32 (xor_lt32 (and_lt32 ha) (and_lt32 ha)) (and_lt32 hb)
theorem t1f_lt (t x : Nat) (s : S8) : t1f t x s < 4294967296 := mod_lt32 _
theorem t2f_lt (s : S8) : t2f s < 4294967296 := mod_lt32 _
theorem stp2_ok {t x : Nat} {s : S8} (h : s.ok) : (stp2 t x s).ok := ⟨mod_lt32 _, h.1, h.2.1, h.2.2.1, mod_lt32 _, h.2.2.2.2.1, h.2.2.2.2.2.1, h.2.2.2.2.2.2.1⟩
theorem stps2_ok {ws : List Nat} {s : S8} (h : s.ok) (k : Nat) : (stps2 ws s k).ok := by
  induction k with
  | zero => exact h
  | succ k ih => exact stp2_ok ih
theorem add2_ok (s t : S8) : (add2 s t).ok := ⟨mod_lt32 _, mod_lt32 _, mod_lt32 _, mod_lt32 _, mod_lt32 _, mod_lt32 _, mod_lt32 _, mod_lt32 _⟩
theorem blk2_ok (s : S8) (b : List Nat) : (blk2 s b).ok := add2_ok _ _
theorem startL_ok : startL.ok := by refine ⟨?_, ?_, ?_, ?_, ?_, ?_, ?_, ?_⟩ <;> decide
theorem startS_ok : startS.ok := by refine ⟨?_, ?_, ?_, ?_, ?_, ?_, ?_, ?_⟩ <;> decide
theorem start2_ok (b : Bool) : (start2 b).ok := by cases b; exact startS_ok; exact startL_ok
theorem blks2_ok {s : S8} (h : s.ok) (p : List Nat) (n : Nat) : (blks2 s p n).ok := by
  cases n with
  | zero => exact h
  | succ n => exact blk2_ok _ _
theorem sch2_length (b : List Nat) (t : Nat) : (sch2 b t).length = t := by
  induction t with
  | zero => rfl
  | succ t ih => simp [sch2, ih]
theorem sch2_lo {b : List Nat} (h : Lo 256 b) (t : Nat) : Lo 4294967296 (sch2 b t) := by
  induction t with
  | zero => exact Lo.nil _
  | succ t ih =>
    refine ih.append ?_
    intro x hx
    rw [List.mem_singleton] at hx
    subst hx
    split
    · exact wd_lt h t
    · exact mod_lt32 _
/-- Rotation, as the operations write it. -/
theorem ror_eq (x n : Nat) (hx : x < 4294967296) (hn : n ≤ 32) : bits .or .u32 ((x : Int) * 2 ^ (32 - n) % 4294967296) ((x : Int) / 2 ^ n) = (ror n x : Nat) := by
  have := S1.rot_eq x (32 - n) hx
  rw [show 32 - (32 - n) = n by omega] at this
  exact this
theorem ror_eq' (x n : Nat) (hx : x < 4294967296) (hn : n ≤ 32) : bits .or .u32 ((x : Int) / 2 ^ n) ((x : Int) * 2 ^ (32 - n) % 4294967296) = (ror n x : Nat) := by
  have e1 : (x : Int) * 2 ^ (32 - n) % 4294967296 = ((x * 2 ^ (32 - n) % 4294967296 : Nat) : Int) := by simp
  have e2 : (x : Int) / 2 ^ n = ((x / 2 ^ n : Nat) : Int) := by simp
  rw [e1, e2, u32_or_nat _ _ (shr_lt32 hx _) (mod_lt32 _), ror, S1.rot, show 32 - (32 - n) = n by omega, Nat.or_comm]
end Go.Proofs.YtmbaenodibfedaaDoor.S2
