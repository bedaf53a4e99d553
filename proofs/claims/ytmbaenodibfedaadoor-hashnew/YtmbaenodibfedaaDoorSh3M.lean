/-
  The mathematics of the third hash (SHA-384, SHA-512), over natural numbers: rotations, the words of a block, the steps, blocks one behind the other, the padding. Over no program.
-/
import Derived.Test.YtmbaenodibfedaaDoorKit4
namespace Go.Proofs.YtmbaenodibfedaaDoor.S3
set_option linter.unusedVariables false

theorem or_lt64 {a b : Nat} (ha : a < 18446744073709551616) (hb : b < 18446744073709551616) : a ||| b < 18446744073709551616 := Nat.or_lt_two_pow (n := 64) ha hb
theorem and_lt64 {a b : Nat} (ha : a < 18446744073709551616) : a &&& b < 18446744073709551616 := Nat.lt_of_le_of_lt Nat.and_le_left ha
theorem xor_lt64 {a b : Nat} (ha : a < 18446744073709551616) (hb : b < 18446744073709551616) : a ^^^ b < 18446744073709551616 := Nat.xor_lt_two_pow (n := 64) ha hb
theorem shr_lt64 {x : Nat} (hx : x < 18446744073709551616) (k : Nat) : x / 2 ^ k < 18446744073709551616 := Nat.lt_of_le_of_lt (Nat.div_le_self _ _) hx
theorem mod_lt64 (x : Nat) : x % 18446744073709551616 < 18446744073709551616 := Nat.mod_lt _ (by decide)
theorem not64 (b : Nat) (hb : b < 18446744073709551616) : bits .xor .u64 IntKind.u64.max (b : Int) = ((b ^^^ 18446744073709551615 : Nat) : Int) := by
  rw [show IntKind.u64.max = ((18446744073709551615 : Nat) : Int) by simp [IntKind.max, IntKind.signed, IntKind.bits], u64_xor_nat _ _ (by decide) hb, Nat.xor_comm]
/-- The k-th byte of a number of 64 bits, the lowest first. -/
def be (n i : Nat) : Nat := n / 2 ^ (8 * i) % 256
def be8 (n : Nat) : List Nat := [be n 7, be n 6, be n 5, be n 4, be n 3, be n 2, be n 1, be n 0]
/-- The t-th number of eight bytes. -/
def wd8 (b : List Nat) (t : Nat) : Nat := b.getD (8 * t) 0 * 72057594037927936 + b.getD (8 * t + 1) 0 * 281474976710656 + b.getD (8 * t + 2) 0 * 1099511627776 + b.getD (8 * t + 3) 0 * 4294967296 + b.getD (8 * t + 4) 0 * 16777216 + b.getD (8 * t + 5) 0 * 65536 + b.getD (8 * t + 6) 0 * 256 + b.getD (8 * t + 7) 0
theorem wd8_lt {b : List Nat} (h : Lo 256 b) (t : Nat) : wd8 b t < 18446744073709551616 := by
  have h0 := h.getD (by decide) (8 * t)
  have h1 := h.getD (by decide) (8 * t + 1)
  have h2 := h.getD (by decide) (8 * t + 2)
  have h3 := h.getD (by decide) (8 * t + 3)
  have h4 := h.getD (by decide) (8 * t + 4)
  have h5 := h.getD (by decide) (8 * t + 5)
  have h6 := h.getD (by decide) (8 * t + 6)
  have h7 := h.getD (by decide) (8 * t + 7)
  unfold wd8; omega
/-- How many noughts. -/
def zs3 (n : Nat) : Nat := (239 - n % 128) % 128
def pad3 (b : List Nat) : List Nat := b ++ 128 :: (List.replicate (zs3 b.length) 0 ++ ([0, 0, 0, 0, 0, 0, 0, 0] ++ be8 (8 * b.length % 18446744073709551616)))
/-- Rotated down by n (64 bits). -/
def ror (n x : Nat) : Nat := (x * 2 ^ (64 - n) % 18446744073709551616) ||| (x / 2 ^ n)
/-- Three rotations. -/
def tri (i j k x : Nat) : Nat := ror i x ^^^ ror j x ^^^ ror k x
/-- Two rotations and a shift. -/
def spr (i j k x : Nat) : Nat := ror i x ^^^ ror j x ^^^ (x / 2 ^ k)
def ch3 (e f g : Nat) : Nat := (e &&& f) ^^^ ((e ^^^ 18446744073709551615) &&& g)
def mj3 (a b c : Nat) : Nat := (a &&& b) ^^^ (a &&& c) ^^^ (b &&& c)
/-- The steps' numbers. -/
def K3L : List Nat := [4794697086780616226, 8158064640168781261, 13096744586834688815, 16840607885511220156, 4131703408338449720, 6480981068601479193, 10538285296894168987, 12329834152419229976, 15566598209576043074, 1334009975649890238, 2608012711638119052, 6128411473006802146, 8268148722764581231, 9286055187155687089, 11230858885718282805, 13951009754708518548, 16472876342353939154, 17275323862435702243, 1135362057144423861, 2597628984639134821, 3308224258029322869, 5365058923640841347, 6679025012923562964, 8573033837759648693, 10970295158949994411, 12119686244451234320, 12683024718118986047, 13788192230050041572, 14330467153632333762, 15395433587784984357, 489312712824947311, 1452737877330783856, 2861767655752347644, 3322285676063803686, 5560940570517711597, 5996557281743188959, 7280758554555802590, 8532644243296465576, 9350256976987008742, 10552545826968843579, 11727347734174303076, 12113106623233404929, 14000437183269869457, 14369950271660146224, 15101387698204529176, 15463397548674623760, 17586052441742319658, 1182934255886127544, 1847814050463011016, 2177327727835720531, 2830643537854262169, 3796741975233480872, 4115178125766777443, 5681478168544905931, 6601373596472566643, 7507060721942968483, 8399075790359081724, 8693463985226723168, 9568029438360202098, 10144078919501101548, 10430055236837252648, 11840083180663258601, 13761210420658862357, 14299343276471374635, 14566680578165727644, 15097957966210449927, 16922976911328602910, 17689382322260857208, 500013540394364858, 748580250866718886, 1242879168328830382, 1977374033974150939, 2944078676154940804, 3659926193048069267, 4368137639120453308, 4836135668995329356, 5532061633213252278, 6448918945643986474, 6902733635092675308, 7801388544844847127]
def K3 (t : Nat) : Nat := K3L.getD t 0
theorem K3L_length : K3L.length = 80 := rfl
theorem K3L_lo : Lo 18446744073709551616 K3L := by
  have h : (K3L.all fun x => decide (x < 18446744073709551616)) = true := by decide +kernel
  intro x hx
  exact of_decide_eq_true (List.all_eq_true.1 h x hx)
theorem K3_lt (t : Nat) : K3 t < 18446744073709551616 := K3L_lo.getD (by decide) t
/-- Eight numbers. -/
structure S8 where
  a : Nat
  b : Nat
  c : Nat
  d : Nat
  e : Nat
  f : Nat
  g : Nat
  h : Nat
def S8.ok (s : S8) : Prop := s.a < 18446744073709551616 ∧ s.b < 18446744073709551616 ∧ s.c < 18446744073709551616 ∧ s.d < 18446744073709551616 ∧ s.e < 18446744073709551616 ∧ s.f < 18446744073709551616 ∧ s.g < 18446744073709551616 ∧ s.h < 18446744073709551616
def S8.list (s : S8) : List Nat := [s.a, s.b, s.c, s.d, s.e, s.f, s.g, s.h]
def t1f (t x : Nat) (s : S8) : Nat := (s.h + tri 14 18 41 s.e + ch3 s.e s.f s.g + K3 t + x) % 18446744073709551616
def t2f (s : S8) : Nat := (tri 28 34 39 s.a + mj3 s.a s.b s.c) % 18446744073709551616
/-- One step. -/
def stp3 (t x : Nat) (s : S8) : S8 := ⟨(t1f t x s + t2f s) % 18446744073709551616, s.a, s.b, s.c, (s.d + t1f t x s) % 18446744073709551616, s.e, s.f, s.g⟩
/-- The first k steps. -/
def stps3 (ws : List Nat) (s : S8) : Nat → S8
  | 0 => s
  | k + 1 => stp3 k (ws.getD k 0) (stps3 ws s k)
def add3 (s t : S8) : S8 := ⟨(s.a + t.a) % 18446744073709551616, (s.b + t.b) % 18446744073709551616, (s.c + t.c) % 18446744073709551616, (s.d + t.d) % 18446744073709551616, (s.e + t.e) % 18446744073709551616, (s.f + t.f) % 18446744073709551616, (s.g + t.g) % 18446744073709551616, (s.h + t.h) % 18446744073709551616⟩
/-- The next word. -/
def nxt3 (ws : List Nat) (t : Nat) : Nat := (spr 19 61 6 (ws.getD (t - 2) 0) + ws.getD (t - 7) 0 + spr 1 8 7 (ws.getD (t - 15) 0) + ws.getD (t - 16) 0) % 18446744073709551616
/-- The first t words. -/
def sch3 (b : List Nat) : Nat → List Nat
  | 0 => []
  | t + 1 => sch3 b t ++ [if t < 16 then wd8 b t else nxt3 (sch3 b t) t]
/-- The numbers behind a block. -/
def blk3 (s : S8) (b : List Nat) : S8 := add3 s (stps3 (sch3 b 80) s 80)
/-- The numbers behind n blocks. -/
def blks3 (s : S8) (p : List Nat) : Nat → S8
  | 0 => s
  | n + 1 => blk3 (blks3 s p n) ((p.drop (128 * n)).take 128)
def startL : S8 := ⟨7640891576956012808, 13503953896175478587, 4354685564936845355, 11912009170470909681, 5840696475078001361, 11170449401992604703, 2270897969802886507, 6620516959819538809⟩
def startS : S8 := ⟨14680500436340154072, 7105036623409894663, 10473403895298186519, 1526699215303891257, 7436329637833083697, 10282925794625328401, 15784041429090275239, 5167115440072839076⟩
def start3 (b : Bool) : S8 := if b then startL else startS
def out3 (s : S8) : List Nat := be8 s.a ++ be8 s.b ++ be8 s.c ++ be8 s.d ++ be8 s.e ++ be8 s.f ++ be8 s.g ++ be8 s.h
/-- All bytes of the hash. -/
def sum3 (b : Bool) (xs : List Nat) : List Nat := out3 (blks3 (start3 b) (pad3 xs) ((pad3 xs).length / 128))

theorem sum3_abc : sum3 true [97, 98, 99] = [221, 175, 53, 161, 147, 97, 122, 186, 204, 65, 115, 73, 174, 32, 65, 49, 18, 230, 250, 78, 137, 169, 126, 162, 10, 158, 238, 230, 75, 85, 211, 154, 33, 146, 153, 42, 39, 79, 193, 168, 54, 186, 60, 35, 163, 254, 235, 189, 69, 77, 68, 35, 100, 60, 232, 14, 42, 154, 201, 79, 165, 76, 164, 159] := by decide +kernel

theorem ror_lt {x : Nat} (hx : x < 18446744073709551616) (n : Nat) : ror n x < 18446744073709551616 := or_lt64 (mod_lt64 _) (shr_lt64 hx _)
theorem tri_lt {x : Nat} (hx : x < 18446744073709551616) (i j k : Nat) : tri i j k x < 18446744073709551616 := xor_lt64 (xor_lt64 (ror_lt hx _) (ror_lt hx _)) (ror_lt hx _)
theorem spr_lt {x : Nat} (hx : x < 18446744073709551616) (i j k : Nat) : spr i j k x < 18446744073709551616 := xor_lt64 (xor_lt64 (ror_lt hx _) (ror_lt hx _)) (shr_lt64 hx _)
theorem ch3_lt {e f g : Nat} (he : e < 18446744073709551616) : ch3 e f g < 18446744073709551616 := xor_lt64 (and_lt64 he) (and_lt64 (xor_lt64 he (by decide)))
theorem mj3_lt {a b c : Nat} (ha : a < 18446744073709551616) (hb : b < 18446744073709551616) : mj3 a b c < 18446744073709551616 := xor_lt64 (xor_lt64 (and_lt64 ha) (and_lt64 ha)) (and_lt64 hb)
theorem t1f_lt (t x : Nat) (s : S8) : t1f t x s < 18446744073709551616 := mod_lt64 _
theorem t2f_lt (s : S8) : t2f s < 18446744073709551616 := mod_lt64 _
theorem stp3_ok {t x : Nat} {s : S8} (h : s.ok) : (stp3 t x s).ok := ⟨mod_lt64 _, h.1, h.2.1, h.2.2.1, mod_lt64 _, h.2.2.2.2.1, h.2.2.2.2.2.1, h.2.2.2.2.2.2.1⟩
theorem stps3_ok {ws : List Nat} {s : S8} (h : s.ok) (k : Nat) : (stps3 ws s k).ok := by
  induction k with
  | zero => exact h
  | succ k ih => exact stp3_ok ih
theorem add3_ok (s t : S8) : (add3 s t).ok := ⟨mod_lt64 _, mod_lt64 _, mod_lt64 _, mod_lt64 _, mod_lt64 _, mod_lt64 _, mod_lt64 _, mod_lt64 _⟩
theorem blk3_ok (s : S8) (b : List Nat) : (blk3 s b).ok := add3_ok _ _
theorem startL_ok : startL.ok := by refine ⟨?_, ?_, ?_, ?_, ?_, ?_, ?_, ?_⟩ <;> decide
theorem startS_ok : startS.ok := by refine ⟨?_, ?_, ?_, ?_, ?_, ?_, ?_, ?_⟩ <;> decide
theorem start3_ok (b : Bool) : (start3 b).ok := by cases b; exact startS_ok; exact startL_ok
theorem blks3_ok {s : S8} (h : s.ok) (p : List Nat) (n : Nat) : (blks3 s p n).ok := by
  cases n with
  | zero => exact h
  | succ n => exact blk3_ok _ _
theorem sch3_length (b : List Nat) (t : Nat) : (sch3 b t).length = t := by
  induction t with
  | zero => rfl
  | succ t ih => simp [sch3, ih]
theorem sch3_lo {b : List Nat} (h : Lo 256 b) (t : Nat) : Lo 18446744073709551616 (sch3 b t) := by
  induction t with
  | zero => exact Lo.nil _
  | succ t ih =>
    refine ih.append ?_
    intro x hx
    rw [List.mem_singleton] at hx
    subst hx
    split
    · exact wd8_lt h t
    · exact mod_lt64 _
/-- Rotation, as the operations write it. -/
theorem ror_eq (x n : Nat) (hx : x < 18446744073709551616) (hn : n ≤ 64) : bits .or .u64 ((x : Int) * 2 ^ (64 - n) % 18446744073709551616) ((x : Int) / 2 ^ n) = (ror n x : Nat) := by
  have e1 : (x : Int) * 2 ^ (64 - n) % 18446744073709551616 = ((x * 2 ^ (64 - n) % 18446744073709551616 : Nat) : Int) := by simp
  have e2 : (x : Int) / 2 ^ n = ((x / 2 ^ n : Nat) : Int) := by simp
  rw [e1, e2, u64_or_nat _ _ (mod_lt64 _) (shr_lt64 hx _), ror]
theorem ror_eq' (x n : Nat) (hx : x < 18446744073709551616) (hn : n ≤ 64) : bits .or .u64 ((x : Int) / 2 ^ n) ((x : Int) * 2 ^ (64 - n) % 18446744073709551616) = (ror n x : Nat) := by
  have e1 : (x : Int) * 2 ^ (64 - n) % 18446744073709551616 = ((x * 2 ^ (64 - n) % 18446744073709551616 : Nat) : Int) := by simp
  have e2 : (x : Int) / 2 ^ n = ((x / 2 ^ n : Nat) : Int) := by simp
  rw [e1, e2, u64_or_nat _ _ (shr_lt64 hx _) (mod_lt64 _), ror, Nat.or_comm]
end Go.Proofs.YtmbaenodibfedaaDoor.S3
