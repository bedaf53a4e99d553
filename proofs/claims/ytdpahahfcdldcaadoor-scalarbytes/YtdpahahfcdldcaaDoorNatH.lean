/-
  Contracts of Shl and Shr, over this seat's translation. Conditions: at most 100000 words.
-/
import Derived.Test.YtdpahahfcdldcaaDoorNatS2
import Derived.Test.YtdpahahfcdldcaaDoorNatM3
namespace Go.Proofs.YtdpahahfcdldcaaDoor
open Go.RowKit Go.Shelf
set_option linter.unusedVariables false
attribute [local go_sem] Oper.semAt_some

set_option maxHeartbeats 1000000 in
theorem shl_any (va : Value) (xs : List Nat) (n : Nat) (w : World) (ha : SlV w va (C .u32 xs)) (hx : Lo W32 xs) (hxm : xs.length ≤ 100000) (hn : n ≤ 16384) :
    Calls Tryd.prog 66 #[va, .int .i64 (n : Int)] w fun e w' => ∃ v', e = .returned (.tuple #[v', .int .i64 0]) ∧ Ans w.heap.size w' v' (val W32 xs * 2 ^ n) ∧ Below w.heap.size w w' := by
  obtain ⟨i0, hi, hz0, hz1, hz2⟩ := info_parts Tryd.info55
  obtain ⟨q, hq⟩ : ∃ q, n / 32 = q := ⟨_, rfl⟩
  obtain ⟨r, hr⟩ : ∃ r, n % 32 = r := ⟨_, rfl⟩
  have hnq : n = 32 * q + r := by omega
  have hr32 : r < 32 := by omega
  have e1 : (n : Int) / 32 = (q : Int) := by omega
  have e2 : (n : Int) % 32 = (r : Int) := by omega
  have HN := Away.mk hnq
  clear hq hr hnq
  go_enter Tryd.func66, Tryd.ntmps66
  go_wp2_with fail
  refine (trimmed_read va xs w ha hx (by omega)).mono ?_
  rintro _ w2 ⟨v1, zs, rfl, hI1, hl1, hs1, hb02⟩
  obtain ⟨n1, hn1⟩ : ∃ n, zs.length = n := ⟨_, rfl⟩
  obtain ⟨a1, c1, rfl, q1, r1⟩ := hs1.shapeC hn1
  have HS1 := Away.mk hs1; have HI1 := Away.mk hI1; have HB := Away.mk hb02
  clear ha hs1 hI1 hb02
  go_wp2_with (at_make; refine wpList_make_full _ rfl _ _ 44 rfl w.heap.size 55 i0 _ 1 Tryd.underlying44 hi hz0 hz1 _ _ _ _ (q + n1 + 1) rfl rfl (by omega) (by omega) (by rw [hz2]; omega) (by unfold maxLen; omega) HB.out.size ?_)
  intro w3 hown hg3
  have hr3 := Row.ofOwn (own_made hown)
  rw [← C_zeros] at hr3
  have hB23 : Below w2.heap.size w2 w3 := (Below.refl _ w2).grown hg3 (Nat.le_refl _) (by simp)
  clear hown hg3
  have HR3 := Away.mk hr3; have HB3 := Away.mk hB23
  clear hr3 hB23
  go_wp2
  go_loopw [32] (fun iv wr => ∃ (k : Nat) (out : List Nat), k ≤ n1 ∧ iv = .int .i64 (k : Int) ∧ out.length = q + n1 + 1 ∧ Lo W32 out ∧ val W32 out = val W32 (zs.take k) * 2 ^ r * W32 ^ q ∧ Row wr w2.heap.size 55 (C .u32 out) ∧ Below w2.heap.size w2 wr) (fun i _ => n1 - (intOf i).toNat)
  case atStart => exact ⟨0, _, Nat.zero_le _, rfl, by simp, Lo.zeros (by decide) _, by simp [val, val_zeros], HR3.out, HB3.out⟩
  case round =>
    obtain ⟨k, out, hk, rfl, hol, holo, hval, hr, hb⟩ := hrel
    by_cases hlt : k < n1
    · obtain ⟨b, off, rfl, hbl, hcx⟩ := (HS1.out.below hb).cells (by rw [C_length]; omega)
      have hck := hcx k _ (C_get _ (by omega))
      have hyb : zs.getD k 0 < 4294967296 := HI1.out.2.1.getD (by decide) k
      have hvs := val_take_succ (B := W32) zs k
      have hco := (hr.cell (q + k)).trans (C_get _ (by omega))
      have hfo := hr.frozen (q + k)
      have hco' := (hr.cell (q + k + 1)).trans (C_get _ (by omega))
      have hfo' := hr.frozen (q + k + 1)
      have htb : out.getD (q + k) 0 < 4294967296 := holo.getD (by decide) _
      generalize zs.getD k 0 = x at *
      generalize ht : out.getD (q + k) 0 = t at *
      have HT := Away.mk ht; have H1 := Away.mk hval; have H2 := Away.mk hvs; have HR := Away.mk hr; have HBr := Away.mk hb; have HL := Away.mk holo
      clear hcx hval hvs hr hb holo ht
      have hm := shl_math (B := W32) (R := 2 ^ r) (S := 2 ^ (32 - r)) (q := q) (k := k) (T := val W32 (zs.take k)) (x := x) (by decide) (Nat.pow_pos (by decide)) (pow_split (by omega)) (by omega) HL.out (val_take_lt (by decide) HI1.out.2.1 k) H1.out HT.out hyb H2.out
      obtain ⟨m1, m2, m3, m4, m5, m6⟩ := hm
      have hor := or_low rfl m1 m2
      obtain ⟨y, hy⟩ : ∃ y, x * 2 ^ r = y := ⟨_, rfl⟩
      rw [hy] at m2 m3 m4 m5 m6 hor
      have hy64 : y < 18446744073709551616 := by
        have := Nat.mod_add_div y 4294967296
        have h5 : y / 4294967296 < 4294967296 := m4
        omega
      have hyi : (x : Int) * 2 ^ r = (y : Int) := by rw [← hy]; simp
      have ho := u32_or_nat t (y % 4294967296) htb (Nat.mod_lt _ (by decide))
      rw [show t ||| y % 4294967296 = t + y % 4294967296 from hor] at ho
      have HM5 := Away.mk m5; have HM6 := Away.mk m6; have HO := Away.mk ho; have HYI := Away.mk hyi
      clear m1 m2 m3 m4 m5 m6 hor ho hyi hy
      go_wp2
      rw [HYI.out, show IntKind.u64.wrap (y : Int) = (y : Int) by rw [wrapU]; omega, show (y : Int) % 4294967296 = ((y % 4294967296 : Nat) : Int) by simp, HO.out, show (y : Int) / 4294967296 % 4294967296 = ((y / 4294967296 : Nat) : Int) by omega]
      go_roundw
      case rel =>
        refine ⟨k + 1, (out.set (q + k) (t + y % 4294967296)).set (q + k + 1) (y / 4294967296), by omega, by go_num, by simp [hol], HM5.out, HM6.out, ?_, ?_⟩
        · have := (HR.out.set (q + k) (.int .u32 ((t + y % 4294967296 : Nat) : Int))).set (q + k + 1) (.int .u32 ((y / 4294967296 : Nat) : Int))
          rwa [← C_set, ← C_set] at this
        · exact (HBr.out.setCell (p := ⟨w2.heap.size, q + k, none⟩) (Nat.le_refl _) _).setCell (p := ⟨w2.heap.size, q + k + 1, none⟩) (Nat.le_refl _) _
      case measure => simp [intOf]; omega
    · obtain rfl : k = n1 := by omega
      rw [List.take_of_length_le (by omega), HI1.out.1, Nat.mul_assoc, show 2 ^ r * W32 ^ q = 2 ^ n by rw [pow32, ← Nat.pow_add, HN.out, Nat.add_comm]] at hval
      have HT := Away.mk (trimmed_new w.heap.size w2.heap.size out wr hr HB.out.size holo (by omega))
      rw [hval, hol] at HT
      have HBr := Away.mk (HB.out.trans (hb.mono HB.out.size))
      clear hval hr hb holo HR3 HB3
      go_wp2_with fail
      refine HT.out.mono ?_
      rintro _ w6 ⟨v', rfl, hans, hb6⟩
      go_wp2
      go_ret2
      exact ⟨_, rfl, hans, HBr.out.trans (hb6.mono HBr.out.size)⟩
theorem shl_bad (va : Value) (n : Int) (w : World) (hn : n < 0 ∨ 16384 < n) :
    Calls Tryd.prog 66 #[va, .int .i64 n] w fun e w' => e = .returned (.tuple #[.slice none 0 0, .int .i64 1]) ∧ w = w' := by
  rcases hn with hn | hn
  · have d1 : decide (n < 0) = true := decide_eq_true hn
    go_enter Tryd.func66, Tryd.ntmps66
    go_wp2
    go_ret2
    exact ⟨rfl, rfl⟩
  · have d1 : decide (n < 0) = false := decide_eq_false (by omega)
    have d2 : decide (16384 < n) = true := decide_eq_true hn
    go_enter Tryd.func66, Tryd.ntmps66
    go_wp2
    go_ret2
    exact ⟨rfl, rfl⟩
end Go.Proofs.YtdpahahfcdldcaaDoor
