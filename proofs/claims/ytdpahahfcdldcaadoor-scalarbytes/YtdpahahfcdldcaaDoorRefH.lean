/-
  Contract of the document's Mul, over this seat's translation. Conditions: at most 100000 words.
-/
import Derived.Test.YtdpahahfcdldcaaDoorRefF
import Derived.BigQuiet
namespace Go.Proofs.YtdpahahfcdldcaaDoor
open Go.RowKit
set_option linter.unusedVariables false

section
variable {B : Nat}
/-- One digit of a row's product: the digit written, the carry carried on. -/
theorem mul_digit {out o1 ys : List Nat} {i k c x s : Nat} (hk : i + k < o1.length) (hd : o1.drop (i + k) = out.drop (i + k)) (hs : c + out.getD (i + k) 0 + x * ys.getD k 0 = s)
    (h : val B (o1.take (i + k)) + B ^ (i + k) * c = val B (out.take (i + k)) + B ^ i * x * val B (ys.take k)) :
    val B ((o1.set (i + k) (s % B)).take (i + (k + 1))) + B ^ (i + (k + 1)) * (s / B) = val B (out.take (i + (k + 1))) + B ^ i * x * val B (ys.take (k + 1)) := by
  rw [← Nat.add_assoc, val_take_set hk, val_take_succ, val_take_succ ys k, Nat.pow_succ B (i + k)]
  have h3 := Nat.mod_add_div s B
  have e := Nat.pow_add B i k
  generalize val B (o1.take (i + k)) = a at *
  generalize val B (out.take (i + k)) = b at *
  generalize val B (ys.take k) = d at *
  generalize out.getD (i + k) 0 = o at *
  generalize ys.getD k 0 = y at *
  generalize s % B = u at *
  generalize s / B = v at *
  rw [e] at h ⊢
  generalize B ^ i = p at *
  generalize B ^ k = q at *
  subst hs
  grind
/-- A row done: the last carry written. -/
theorem mul_row {out o1 xs ys : List Nat} {i n c : Nat} (hB : 0 < B) (hn : ys.length = n) (hi : i + n < out.length) (hl : o1.length = out.length) (hd : o1.drop (i + n) = out.drop (i + n)) (hx : Lo B xs) (hy : Lo B ys)
    (hv : val B out = val B (xs.take i) * val B ys) (h : val B (o1.take (i + n)) + B ^ (i + n) * c = val B (out.take (i + n)) + B ^ i * xs.getD i 0 * val B (ys.take n)) :
    val B (o1.set (i + n) c) = val B (xs.take (i + 1)) * val B ys := by
  have h1 : val B out < B ^ (i + n) := by
    rw [hv]
    have := val_lt hB hy
    rw [hn] at this
    exact mul_fits (val_take_lt hB hx i) this
  have h2 := val_take_all hB h1
  have h3 : val B (out.take (i + n + 1)) = val B out := val_take_all hB (Nat.lt_of_lt_of_le h1 (Nat.pow_le_pow_right hB (by omega)))
  have h4 := val_take_drop (B := B) out (i + n + 1) (by omega)
  have h5 := val_take_drop (B := B) (o1.set (i + n) c) (i + n + 1) (by simp; omega)
  rw [drop_set_succ, drop_succ_of hd, val_take_set (by omega)] at h5
  rw [h3] at h4
  have h6 : B ^ (i + n + 1) * val B (out.drop (i + n + 1)) = 0 := by omega
  rw [h6, h, h2, List.take_of_length_le (by omega : ys.length ≤ n), hv] at h5
  rw [h5, val_take_succ]
  generalize B ^ i = p
  grind
end
theorem mul_bound16 {x y : Nat} (hx : x < 65536) (hy : y < 65536) : x * y ≤ 4294836225 := Nat.mul_le_mul (by omega : x ≤ 65535) (by omega : y ≤ 65535)

set_option maxHeartbeats 2000000 in
theorem refmul_any (va vb : Value) (xs ys : List Nat) (w : World) (ha : SlV w va (C .u32 xs)) (hb : SlV w vb (C .u32 ys)) (hx : Lo W32 xs) (hy : Lo W32 ys) (hxm : xs.length ≤ 100000) (hym : ys.length ≤ 100000) :
    Calls Tryd.prog 35 #[va, vb] w fun e w' => ∃ v', e = .returned v' ∧ RA w' v' (val W32 xs * val W32 ys) ∧ Below w.heap.size w w' := by
  obtain ⟨i0, hi, hz0, hz1, hz2⟩ := info_parts Tryd.info22
  have HA := Away.mk ha; have HB := Away.mk hb
  clear ha hb
  go_enter Tryd.func35, Tryd.ntmps35
  go_wp2_with fail
  refine (digits_any _ xs w HA.out hx hxm).mono ?_
  rintro _ w1 ⟨v1, es, rfl, hI1, hl1, hs1, hb1⟩
  go_wp2_with fail
  refine (digits_any _ ys w1 (HB.out.below hb1) hy hym).mono ?_
  rintro _ w2 ⟨v2, fs, rfl, hI2, hl2, hs2, hb2⟩
  have hs1 := hs1.below hb2
  have hb02 : Below w.heap.size w w2 := hb1.trans (hb2.mono hb1.size)
  obtain ⟨n1, hn1⟩ : ∃ n, es.length = n := ⟨_, rfl⟩
  obtain ⟨n2, hn2⟩ : ∃ n, fs.length = n := ⟨_, rfl⟩
  obtain ⟨a1, c1, rfl, q1, r1⟩ := hs1.shapeC hn1
  obtain ⟨a2, c2, rfl, q2, r2⟩ := hs2.shapeC hn2
  obtain ⟨m, hm⟩ : ∃ m, n1 + n2 = m := ⟨_, rfl⟩
  have em : (n1 : Int) + (n2 : Int) = (m : Int) := by omega
  have hmm : m ≤ 400000 ∧ n1 ≤ 200000 ∧ n2 ≤ 200000 := by omega
  have HS1 := Away.mk hs1; have HS2 := Away.mk hs2; have HI1 := Away.mk hI1; have HI2 := Away.mk hI2; have HB2 := Away.mk hb02; have HM := Away.mk hm
  clear hs1 hs2 hI1 hI2 hb1 hb2 hb02 HA HB hm hl1 hl2
  go_wp2_with (at_make; refine wpList_make_full _ rfl _ _ 59 rfl w2.heap.size 22 i0 _ 1 Tryd.underlying59 hi hz0 hz1 _ _ _ _ m rfl rfl (by omega) (by omega) (by rw [hz2]; omega) (by unfold maxLen; omega) (Nat.le_refl _) ?_)
  intro w3 hown hg3
  have hr3 := Row.ofOwn (own_made hown)
  rw [← C_zeros] at hr3
  have hB3 : Below w2.heap.size w2 w3 := (Below.refl _ w2).grown hg3 (Nat.le_refl _) (by simp)
  have HR3 := Away.mk hr3; have HB3 := Away.mk hB3
  clear hown hg3 hr3 hB3 em
  go_wp2
  go_loopw [8] (fun iv wr => ∃ (i : Nat) (out : List Nat), i ≤ n1 ∧ iv = .int .i64 (i : Int) ∧ out.length = m ∧ Lo W16 out ∧ val W16 out = val W16 (es.take i) * val W16 fs ∧ Row wr w2.heap.size 22 (C .u64 out) ∧ Below w2.heap.size w2 wr) (fun i _ => n1 - (intOf i).toNat)
  case atStart => exact ⟨0, _, Nat.zero_le _, rfl, by simp, Lo.zeros (by decide) _, by simp [val, val_zeros], HR3.out, HB3.out⟩
  case round =>
    obtain ⟨i, out, hi', rfl, hol, holo, hval, hr, hb⟩ := hrel
    by_cases hlt : i < n1
    · obtain ⟨b, off, rfl, hbl, hcx⟩ := HS1.out.cells (by rw [C_length]; omega)
      have hckx := hcx i _ (C_get _ (by omega))
      have hx1 : es.getD i 0 < 65536 := HI1.out.2.1.getD (by decide) _
      have HCX := Away.mk hckx
      obtain ⟨x, hxx⟩ : ∃ x, es.getD i 0 = x := ⟨_, rfl⟩
      rw [hxx] at hckx hx1
      have HX := Away.mk hckx; have HXX := Away.mk hxx
      have HV := Away.mk hval; have HR := Away.mk hr; have HBo := Away.mk hb; have HLo := Away.mk holo
      have hin : i + n2 < m := by have := HM.out; omega
      clear hcx hckx hval hr hb holo HCX hxx
      go_wp2
      go_loopw [9, 10] (fun cv kv wr => ∃ (k c : Nat) (o1 : List Nat), k ≤ n2 ∧ kv = .int .i64 (k : Int) ∧ cv = .int .u64 (c : Int) ∧ c < 65536 ∧ o1.length = m ∧ Lo W16 o1 ∧ o1.drop (i + k) = out.drop (i + k) ∧ val W16 (o1.take (i + k)) + W16 ^ (i + k) * c = val W16 (out.take (i + k)) + W16 ^ i * x * val W16 (fs.take k) ∧ Row wr w2.heap.size 22 (C .u64 o1) ∧ Below w2.heap.size w2 wr) (fun _ k _ => n2 - (intOf k).toNat)
      case atStart => exact ⟨0, 0, out, Nat.zero_le _, rfl, rfl, by omega, hol, HLo.out, rfl, by simp [val], HR.out, HBo.out⟩
      case round =>
        obtain ⟨k, c, o1, hk, rfl, rfl, hc, hol1, holo1, hdr, hval, hr, hb⟩ := hrel
        by_cases hltk : k < n2
        · obtain ⟨b2, off2, rfl, hbl2, hcx2⟩ := HS2.out.cells (by rw [C_length]; omega)
          have hcx := (hb.cell (p := ⟨b, off + i, none⟩) hbl).trans HX.out
          have hcy := (hb.cell (p := ⟨b2, off2 + k, none⟩) hbl2).trans (hcx2 k _ (C_get _ (by omega)))
          have hy1 : fs.getD k 0 < 65536 := HI2.out.2.1.getD (by decide) _
          obtain ⟨ik, hik⟩ : ∃ ik, i + k = ik := ⟨_, rfl⟩
          have hikm : ik < m := by omega
          have hco := (hr.cell ik).trans (C_get _ (by omega))
          have hfo := hr.frozen ik
          have ho1 : o1.getD ik 0 < 65536 := holo1.getD (by decide) _
          have hoo := getD_of_drop hdr
          rw [hik] at hoo
          have hst := fun s hs => mul_digit (B := W16) (s := s) (by omega) hdr hs hval
          have hdd := drop_succ_of hdr
          rw [hik] at hst hdd
          rw [← hoo] at hst
          generalize o1.getD ik 0 = o at *
          generalize fs.getD k 0 = y at *
          have hxy := mul_bound16 hx1 hy1
          obtain ⟨z, hz⟩ : ∃ z, x * y = z := ⟨_, rfl⟩
          have hzi : (x : Int) * (y : Int) = (z : Int) := by rw [← hz]; simp
          rw [hz] at hxy
          obtain ⟨co, hco1⟩ : ∃ co, c + o = co := ⟨_, rfl⟩
          obtain ⟨s, hs⟩ : ∃ s, co + z = s := ⟨_, rfl⟩
          obtain ⟨p, hp⟩ : ∃ p, s % 65536 = p := ⟨_, rfl⟩
          have e1 : (c : Int) + (o : Int) = (co : Int) := by omega
          have e2 : (co : Int) + (z : Int) = (s : Int) := by omega
          have e3 : (s : Int) % 65536 = (p : Int) := by omega
          have e4 : (i : Int) + (k : Int) = (ik : Int) := by omega
          have hcob : co < 131072 := by omega
          have hsb : s < 4294967296 := by omega
          have hpb : p < 65536 := by omega
          have HST := Away.mk (hst s (by rw [hz, hco1]; exact hs)); have HR1 := Away.mk hr; have HB1 := Away.mk hb; have HL1 := Away.mk holo1; have HDD := Away.mk hdd; have HP := Away.mk hp; have HIK := Away.mk hik
          clear hst hr hb holo1 hdd hp hz hs hco1 hoo hdr hval hcx2 hik
          go_wp2_with fail
          go_region
          go_wp2
          go_roundw
          case rel =>
            have hP := HP.out
            have hS := HST.out
            rw [show W16 = 65536 from rfl, hP] at hS
            refine ⟨k + 1, s / 65536, o1.set ik p, by omega, by simp, by simp, by omega, by simp [hol1], HL1.out.set _ _ hpb, ?_, hS, ?_, (HB1.out.setCell (p := ⟨w2.heap.size, ik, none⟩) (Nat.le_refl _) _).drew⟩
            · have := HIK.out
              rw [← Nat.add_assoc, this, drop_set_succ]; exact HDD.out
            · have := HR1.out.set ik (.int .u64 (p : Int))
              rw [← C_set] at this
              exact this
          case measure => simp [intOf]; omega
        · obtain rfl : k = n2 := by omega
          have hrow := mul_row (B := W16) (xs := es) (ys := fs) (by decide) hn2 (by omega) (by omega) hdr HI1.out.2.1 HI2.out.2.1 HV.out (by rw [HXX.out]; exact hval)
          obtain ⟨ik, hik⟩ : ∃ ik, i + k = ik := ⟨_, rfl⟩
          rw [hik] at hrow hin
          have hfo := hr.frozen ik
          have hco := (hr.cell ik).trans (C_get _ (by omega))
          generalize o1.getD ik 0 = o at hco
          have e4 : (i : Int) + (k : Int) = (ik : Int) := by omega
          have HW := Away.mk hrow; have HR1 := Away.mk hr; have HB1 := Away.mk hb; have HL1 := Away.mk holo1
          clear hrow hr hb holo1 hdr hval hik
          go_wp2
          go_roundw
          case rel =>
            refine ⟨i + 1, o1.set ik c, by omega, by simp, by simp [hol1], HL1.out.set _ _ hc, HW.out, ?_, HB1.out.setCell (p := ⟨w2.heap.size, ik, none⟩) (Nat.le_refl _) _⟩
            have := HR1.out.set ik (.int .u64 (c : Int))
            rw [← C_set] at this
            exact this
          case measure => simp [intOf]; omega
    · obtain rfl : i = n1 := by omega
      rw [List.take_of_length_le (by omega), HI1.out.1, HI2.out.1] at hval
      have hsl := hr.slAll (by rw [C_length]; unfold maxLen; omega)
      rw [C_length, hol] at hsl
      have HT := Away.mk (whole_any _ out wr hsl holo (by omega))
      rw [hval] at HT
      have HBr := Away.mk (HB2.out.trans (hb.mono HB2.out.size))
      clear hval hr hb holo HR3 HB3 hsl
      go_wp2_with fail
      refine HT.out.mono ?_
      rintro _ w6 ⟨v', rfl, hans, hb6⟩
      go_wp2
      go_ret
      exact ⟨_, rfl, hans, HBr.out.trans (hb6.mono HBr.out.size)⟩
end Go.Proofs.YtdpahahfcdldcaaDoor
