/-
  Contracts of the document's Read, Add, less, Sub, times, Shl, over this seat's translation. Conditions: at most 100000 words.
-/
import Derived.Test.YtdpahahfcdldcaaDoorRefC
namespace Go.Proofs.YtdpahahfcdldcaaDoor
open Go.RowKit
set_option linter.unusedVariables false

/-- A byte more, from the lowest on. -/
theorem refread_math {ds : List Nat} {T i x t : Nat} (hl : i / 2 < ds.length) (hlo : Lo W16 ds) (hv : val W16 ds = T) (hT : T < 256 ^ i) (ht : ds.getD (i / 2) 0 = t) (hx : x < 256) :
    t + x * 256 ^ (i % 2) < 65536 ∧ val W16 (ds.set (i / 2) (t + x * 256 ^ (i % 2))) = T + 256 ^ i * x := by
  have h0 : 256 ^ i = W16 ^ (i / 2) * 256 ^ (i % 2) := by
    rw [show (W16 : Nat) = 256 ^ 2 from rfl, ← Nat.pow_mul, ← Nat.pow_add]; congr 1; omega
  have e2 := val_set (B := W16) hl (x * 256 ^ (i % 2))
  rw [ht, hv] at e2
  have ht' := getD_val (B := W16) (by decide) hlo (i / 2)
  rw [ht, hv] at ht'
  have hlt : t < 256 ^ (i % 2) := by
    rw [ht']
    refine Nat.lt_of_le_of_lt (Nat.mod_le _ _) ?_
    rw [Nat.div_lt_iff_lt_mul (Nat.pow_pos (by decide)), Nat.mul_comm, ← h0]
    exact hT
  refine ⟨?_, ?_⟩
  · rcases (show i % 2 = 0 ∨ i % 2 = 1 by omega) with h | h
    · rw [h] at hlt ⊢; simp at hlt ⊢; omega
    · rw [h] at hlt ⊢; simp at hlt ⊢; omega
  · rw [e2, h0]
    congr 1
    rw [Nat.mul_comm x, Nat.mul_assoc]

set_option maxHeartbeats 1000000 in
theorem refread_any (v : Value) (bs : List Nat) (w : World) (hs : SlV w v (C .u8 bs)) (hl : Lo 256 bs) (hm : bs.length ≤ 100000) :
    Calls Tryd.prog 40 #[v] w fun e w' => ∃ v', e = .returned v' ∧ RA w' v' (val 256 bs.reverse) ∧ Below w.heap.size w w' := by
  obtain ⟨i0, hi, hz0, hz1, hz2⟩ := info_parts Tryd.info22
  obtain ⟨n, hn⟩ : ∃ n, bs.length = n := ⟨_, rfl⟩
  obtain ⟨a, cap, rfl, q1, r1⟩ := hs.shapeC hn
  rw [hn] at hm
  obtain ⟨m, hm'⟩ : ∃ m, n / 2 + 1 = m := ⟨_, rfl⟩
  have e0 : (n : Int) / 2 + 1 = (m : Int) := by omega
  have hmn : m ≤ 100000 ∧ n < 2 * m := by omega
  clear hm'
  have HS := Away.mk hs
  clear hs
  go_enter Tryd.func40, Tryd.ntmps40
  go_wp2_with (at_make; refine wpList_make_full _ rfl _ _ 59 rfl w.heap.size 22 i0 _ 1 Tryd.underlying59 hi hz0 hz1 _ _ _ _ m rfl rfl (by omega) (by omega) (by rw [hz2]; omega) (by unfold maxLen; omega) (Nat.le_refl _) ?_)
  intro w3 hown hg3
  have hr3 := Row.ofOwn (own_made hown)
  rw [← C_zeros] at hr3
  have hB3 : Below w.heap.size w w3 := (Below.refl _ w).grown hg3 (Nat.le_refl _) (by simp)
  have HR3 := Away.mk hr3; have HB3 := Away.mk hB3
  clear hown hg3 hr3 hB3 e0
  go_wp2
  go_loopw [4] (fun iv wr => ∃ (k : Nat) (out : List Nat), k ≤ n ∧ iv = .int .i64 (k : Int) ∧ out.length = m ∧ Lo W16 out ∧ val W16 out = val 256 (bs.reverse.take k) ∧ Row wr w.heap.size 22 (C .u64 out) ∧ Below w.heap.size w wr) (fun i _ => n - (intOf i).toNat)
  case atStart => exact ⟨0, _, Nat.zero_le _, rfl, by simp, Lo.zeros (by decide) _, by simp [val, val_zeros], HR3.out, HB3.out⟩
  case round =>
    obtain ⟨k, out, hk, rfl, hol, holo, hval, hr, hb⟩ := hrel
    by_cases hlt : k < n
    · obtain ⟨b, off, rfl, hbl, hcx⟩ := (HS.out.below hb).cells (by rw [C_length]; omega)
      obtain ⟨p, hp⟩ : ∃ p, n - 1 - k = p := ⟨_, rfl⟩
      have hck := hcx p _ (C_get _ (by omega))
      have hyb : bs.getD p 0 < 256 := hl.getD (by decide) _
      have hvs := val_take_succ (B := 256) bs.reverse k
      rw [rev_getD _ _ (by omega), hn, hp] at hvs
      have hlt2 := val_take_lt (B := 256) (by decide) hl.reverse k
      obtain ⟨kh, hkh⟩ : ∃ kh, k / 2 = kh := ⟨_, rfl⟩
      have hco := (hr.cell kh).trans (C_get _ (by omega))
      have hfo := hr.frozen kh
      have htb : out.getD kh 0 < 65536 := holo.getD (by decide) _
      obtain ⟨x, hx⟩ : ∃ x, bs.getD p 0 = x := ⟨_, rfl⟩
      obtain ⟨t, ht⟩ : ∃ t, out.getD kh 0 = t := ⟨_, rfl⟩
      rw [hx] at hck hyb hvs
      rw [ht] at hco htb
      obtain ⟨m1, m2⟩ := refread_math (i := k) (t := t) (by omega) holo hval hlt2 (by rw [hkh, ht]) hyb
      rw [hkh, ← hvs] at m2
      have e2 : (n : Int) - 1 - k = (p : Int) := by omega
      have e3 : (k : Int) / 2 = (kh : Int) := by omega
      have hpn : p < n := by omega
      have hkm : kh < m := by omega
      have HM1 := Away.mk m1; have HM2 := Away.mk m2; have HR := Away.mk hr; have HB := Away.mk hb; have HL := Away.mk holo
      clear hcx hval hvs hlt2 hr hb holo m1 m2 hp hkh hx ht HR3 HB3
      have hfin : ∀ z : Nat, z = t + x * 256 ^ (k % 2) → ∃ (k' : Nat) (out' : List Nat), k' ≤ n ∧ Value.int .i64 ((k : Int) + 1) = .int .i64 (k' : Int) ∧ out'.length = m ∧ Lo W16 out' ∧ val W16 out' = val 256 (bs.reverse.take k') ∧ Row (wr.setCell ⟨w.heap.size, kh, none⟩ (.int .u64 (z : Int))) w.heap.size 22 (C .u64 out') ∧ Below w.heap.size w (wr.setCell ⟨w.heap.size, kh, none⟩ (.int .u64 (z : Int))) := fun z hz => by
        refine ⟨k + 1, out.set kh z, by omega, by simp, by simp [hol], HL.out.set _ _ (by rw [hz]; exact HM1.out), by rw [hz]; exact HM2.out, by rw [C_set]; exact HR.out.set kh _, HB.out.setCell (p := ⟨w.heap.size, kh, none⟩) (Nat.le_refl _) _⟩
      have HF := Away.mk hfin
      clear hfin
      by_cases ho : k % 2 = 1
      · have d1 : (k : Int) % 2 = 1 := by omega
        go_wp2
        go_roundw
        case rel =>
          have := HF.out (t + x * 256) (by rw [ho])
          rw [show ((t + x * 256 : Nat) : Int) = (t : Int) + (x : Int) * 256 by omega] at this
          exact this
        case measure => simp [intOf]; omega
      · have d1 : ((k : Int) % 2 == 1) = false := by simp; omega
        go_wp2
        go_roundw
        case rel =>
          have := HF.out (t + x) (by rw [show k % 2 = 0 by omega]; omega)
          rw [show ((t + x : Nat) : Int) = (t : Int) + (x : Int) by omega] at this
          exact this
        case measure => simp [intOf]; omega
    · obtain rfl : k = n := by omega
      rw [List.take_of_length_le (by rw [List.length_reverse]; omega)] at hval
      have hsl := hr.slAll (by rw [C_length]; unfold maxLen; omega)
      rw [C_length, hol] at hsl
      have HT := Away.mk (whole_any _ out wr hsl holo (by omega))
      rw [hval] at HT
      have HBr := Away.mk hb
      clear hval hr hb holo HR3 HB3 hsl
      go_wp2_with fail
      refine HT.out.mono ?_
      rintro _ w6 ⟨v', rfl, hans, hb6⟩
      go_wp2
      go_ret
      exact ⟨_, rfl, hans, HBr.out.trans (hb6.mono HBr.out.size)⟩
end Go.Proofs.YtdpahahfcdldcaaDoor
