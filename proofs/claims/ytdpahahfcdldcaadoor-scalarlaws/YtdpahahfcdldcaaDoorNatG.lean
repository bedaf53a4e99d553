/-
  Contract of Read, over this seat's translation. Conditions: at most 100000 bytes.
-/
import Derived.Test.YtdpahahfcdldcaaDoorNatF
import Derived.Test.YtdpahahfcdldcaaDoorNatM4
namespace Go.Proofs.YtdpahahfcdldcaaDoor
open Go.RowKit
set_option linter.unusedVariables false

set_option maxHeartbeats 2000000 in
theorem read_any (v : Value) (bs : List Nat) (w : World) (hs : SlV w v (C .u8 bs)) (hl : Lo 256 bs) (hm : bs.length ≤ 100000) :
    Calls Tryd.prog 39 #[v] w fun e w' => ∃ v', e = .returned v' ∧ Ans w.heap.size w' v' (val 256 bs.reverse) ∧ Below w.heap.size w w' := by
  obtain ⟨i0, hi, hz0, hz1, hz2⟩ := info_parts Tryd.info55
  obtain ⟨n, hn⟩ : ∃ n, bs.length = n := ⟨_, rfl⟩
  obtain ⟨a, cap, rfl, q1, r1⟩ := hs.shapeC hn
  rw [hn] at hm
  obtain ⟨m, hm'⟩ : ∃ m, (n + 3) / 4 = m := ⟨_, rfl⟩
  have e0 : ((n : Int) + 4 - 1) / 4 = (m : Int) := by omega
  have hmn : m ≤ 100000 := by omega
  have HM := Away.mk hm'
  clear hm'
  go_enter Tryd.func39, Tryd.ntmps39
  go_wp2_with (at_make; refine wpList_make_full _ rfl _ _ 44 rfl w.heap.size 55 i0 _ 1 Tryd.underlying44 hi hz0 hz1 _ _ _ _ m rfl rfl (by omega) (by omega) (by rw [hz2]; omega) (by unfold maxLen; omega) (Nat.le_refl _) ?_)
  intro w3 hown hg3
  have hr3 := Row.ofOwn (own_made hown)
  rw [← C_zeros] at hr3
  have hB3 : Below w.heap.size w w3 := (Below.refl _ w).grown hg3 (Nat.le_refl _) (by simp)
  have HR3 := Away.mk hr3; have HB3 := Away.mk hB3; have HS := Away.mk hs
  clear hown hg3 hr3 hB3 hs e0
  go_wp2
  go_loopw [15] (fun iv wr => ∃ (k : Nat) (out : List Nat), k ≤ n ∧ iv = .int .i64 (k : Int) ∧ out.length = m ∧ Lo W32 out ∧ val W32 out = 256 ^ (n - k) * val 256 (bs.take k).reverse ∧ Row wr w.heap.size 55 (C .u32 out) ∧ Below w.heap.size w wr) (fun i _ => n - (intOf i).toNat)
  case atStart => exact ⟨0, _, Nat.zero_le _, rfl, by simp, Lo.zeros (by decide) _, by simp [val, val_zeros], HR3.out, HB3.out⟩
  case round =>
    obtain ⟨k, out, hk, rfl, hol, holo, hval, hr, hb⟩ := hrel
    have hm' := HM.out
    by_cases hlt : k < n
    · obtain ⟨b, off, rfl, hbl, hcx⟩ := (HS.out.below hb).cells (by rw [C_length]; omega)
      have hck := hcx k _ (C_get _ (by omega))
      have hyb : bs.getD k 0 < 256 := hl.getD (by decide) k
      have hvs := rev_succ (bs := bs) (k := k) (by omega)
      obtain ⟨p, hp⟩ : ∃ p, n - 1 - k = p := ⟨_, rfl⟩
      have hnk : n - k = p + 1 := by omega
      have hp4 : p / 4 < m := by omega
      rw [hnk] at hval
      have hco := (hr.cell (p / 4)).trans (C_get _ (by omega))
      have hfo := hr.frozen (p / 4)
      have htb : out.getD (p / 4) 0 < 4294967296 := holo.getD (by decide) _
      generalize bs.getD k 0 = x at *
      generalize ht : out.getD (p / 4) 0 = t at *
      obtain ⟨m1, m2, m3, m4⟩ := read_math (by omega) holo hval ht hyb
      have e2 : (n : Int) - 1 - k = (p : Int) := by omega
      have hpn : p < n := by omega
      have HT := Away.mk ht; have HM1 := Away.mk m1; have HM2 := Away.mk m2; have HM3 := Away.mk m3; have HM4 := Away.mk m4; have H2 := Away.mk hvs; have HR := Away.mk hr; have HBr := Away.mk hb; have HL := Away.mk holo; have HP := Away.mk hp
      clear hcx hval hvs hr hb holo ht m1 m2 m3 m4 hnk hp hm' HS HR3 HB3
      go_wp2
      go_region
      obtain ⟨y, hy⟩ : ∃ y, x * 2 ^ (p % 4 * 8) = y := ⟨_, rfl⟩
      have hyi : (x : Int) * 2 ^ (p % 4 * 8) = (y : Int) := by rw [← hy]; simp
      rw [hy] at HM1 HM2 HM3 HM4
      have ho := u32_or_nat t y htb HM3.out
      rw [HM2.out] at ho
      have hm3 := HM3.out
      rw [hyi, show (y : Int) % 4294967296 = (y : Int) by omega, ho]
      clear ho hyi hy hm3
      go_wp2
      go_roundw
      case rel =>
        have hp := HP.out
        refine ⟨k + 1, out.set (p / 4) (t + y), by omega, by go_num, by simp [hol], HL.out.set _ _ HM1.out, ?_, ?_, (HBr.out.setCell (p := ⟨w.heap.size, p / 4, none⟩) (Nat.le_refl _) _).drew⟩
        · rw [HM4.out, H2.out, show n - (k + 1) = p by omega]
        · have := HR.out.set (p / 4) (.int .u32 ((t + y : Nat) : Int))
          rw [← C_set] at this
          exact this
      case measure => simp [intOf]; omega
    · obtain rfl : k = n := by omega
      rw [List.take_of_length_le (by omega), Nat.sub_self, Nat.pow_zero, Nat.one_mul] at hval
      have HT := Away.mk (trimmed_new w.heap.size w.heap.size out wr hr (Nat.le_refl _) holo (by omega))
      rw [hval, hol] at HT
      have HBr := Away.mk hb
      clear hval hr hb holo HR3 HB3 hm'
      go_wp2_with fail
      refine HT.out.mono ?_
      rintro _ w6 ⟨v', rfl, hans, hb6⟩
      go_wp2
      go_ret
      exact ⟨_, rfl, hans, HBr.out.trans (hb6.mono HBr.out.size)⟩
end Go.Proofs.YtdpahahfcdldcaaDoor
