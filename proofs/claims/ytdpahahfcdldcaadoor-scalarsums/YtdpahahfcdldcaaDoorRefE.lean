/-
  Contracts of the document's Add, less, Sub, times, Shl, over this seat's translation. Conditions: at most 100000 words.
-/
import Derived.Test.YtdpahahfcdldcaaDoorRefD
namespace Go.Proofs.YtdpahahfcdldcaaDoor
open Go.RowKit
set_option linter.unusedVariables false

set_option maxHeartbeats 1000000 in
theorem refadd_any (va vb : Value) (xs ys : List Nat) (w : World) (ha : SlV w va (C .u32 xs)) (hb : SlV w vb (C .u32 ys)) (hx : Lo W32 xs) (hy : Lo W32 ys) (hxm : xs.length ≤ 100000) (hym : ys.length ≤ 100000) :
    Calls Tryd.prog 31 #[va, vb] w fun e w' => ∃ v', e = .returned v' ∧ RA w' v' (val W32 xs + val W32 ys) ∧ Below w.heap.size w w' := by
  have HA := Away.mk ha; have HB := Away.mk hb
  clear ha hb
  go_enter Tryd.func31, Tryd.ntmps31
  go_wp2_with fail
  refine (digits_any _ xs w HA.out hx hxm).mono ?_
  rintro _ w1 ⟨v1, es, rfl, hI1, hl1, hs1, hb1⟩
  go_wp2_with fail
  refine (digits_any _ ys w1 (HB.out.below hb1) hy hym).mono ?_
  rintro _ w2 ⟨v2, fs, rfl, hI2, hl2, hs2, hb2⟩
  have hs1 := hs1.below hb2
  have hb02 : Below w.heap.size w w2 := hb1.trans (hb2.mono hb1.size)
  obtain ⟨n1, hn1⟩ : ∃ n, es.length = n := ⟨_, rfl⟩
  obtain ⟨n2, hn2⟩ : ∃ n, fs.length = n := ⟨_, rfl⟩
  obtain ⟨a1, c1, rfl, q1, r1⟩ := hs1.shapeC hn1
  obtain ⟨a2, c2, rfl, q2, r2⟩ := hs2.shapeC hn2
  obtain ⟨m, hmx, h1m, h2m, hmm⟩ : ∃ m : Nat, max (n1 : Int) (n2 : Int) = (m : Int) ∧ n1 ≤ m ∧ n2 ≤ m ∧ m ≤ 200000 := ⟨max n1 n2, by omega, by omega, by omega, by omega⟩
  have HS1 := Away.mk hs1; have HS2 := Away.mk hs2; have HI1 := Away.mk hI1; have HI2 := Away.mk hI2; have HB2 := Away.mk hb02
  clear hs1 hs2 hI1 hI2 hb1 hb2 hb02 HA HB
  go_wp2
  go_loopw [7, 8, 9] (fun ov cv iv wr => ∃ (k c : Nat) (out : List Nat), k ≤ m + 1 ∧ iv = .int .i64 (k : Int) ∧ cv = .int .u64 (c : Int) ∧ c ≤ 1 ∧ out.length = k ∧ Lo W16 out ∧ val W16 out + W16 ^ k * c = val W16 (es.take k) + val W16 (fs.take k) ∧ wr.ownsRow w2.heap.size 22 1 ov k (C .u64 out) ∧ Below w2.heap.size w2 wr) (fun _ _ i _ => m + 1 - (intOf i).toNat)
  case atStart => exact ⟨0, 0, [], Nat.zero_le _, rfl, rfl, by omega, rfl, Lo.nil _, by simp [val], own_empty w2 _ _ (Nat.le_refl _), (Below.refl _ _).alloc (Nat.le_refl _) _⟩
  case round =>
    obtain ⟨k, c, out, hk, rfl, rfl, hc, hol, holo, hval, hown, hb⟩ := hrel
    by_cases hlt : k < m + 1
    · have hd1 := digit_any _ es k wr (HS1.out.below hb) (by omega) (by omega)
      have hd2 := digit_any _ fs k wr (HS2.out.below hb) (by omega) (by omega)
      have hx1 : es.getD k 0 < 65536 := HI1.out.2.1.getD (by decide) _
      have hx2 : fs.getD k 0 < 65536 := HI2.out.2.1.getD (by decide) _
      have hv1 := val_take_succ (B := W16) es k
      have hv2 := val_take_succ (B := W16) fs k
      generalize es.getD k 0 = x at *
      generalize fs.getD k 0 = y at *
      obtain ⟨s, hs⟩ : ∃ s, c + x + y = s := ⟨_, rfl⟩
      obtain ⟨p, hp⟩ : ∃ p, s % 65536 = p := ⟨_, rfl⟩
      have e1 : ((c : Int) + x + y) % 65536 = (p : Int) := by omega
      have e2 : (c : Int) + x + y = (s : Int) := by omega
      have hpb : p < 65536 := by omega
      have hsb : s < 131072 := by omega
      have HD1 := Away.mk hd1; have HD2 := Away.mk hd2; have HV1 := Away.mk hv1; have HV2 := Away.mk hv2; have HV := Away.mk hval; have HO := Away.mk hown; have HB := Away.mk hb; have HL := Away.mk holo; have HSS := Away.mk hs; have HP := Away.mk hp
      clear hd1 hd2 hv1 hv2 hval hown hb holo hs hp e1
      have e3 : (s : Int) % 65536 = (p : Int) := by have := HP.out; omega
      go_wp2_with fail
      refine HD1.out.mono ?_
      rintro _ w' ⟨rfl, rfl⟩
      go_wp2_with fail
      refine HD2.out.mono ?_
      rintro _ w' ⟨rfl, rfl⟩
      go_wp2_with (at_builtin; refine wpList_append_sl rfl (.tmp 34) (.tmp 37) 59 rfl w2.heap.size 22 (.int .u64 0) 8 Tryd.underlying59 Tryd.info22 rfl _ k _ rfl (HO.out.alloc _) _ [.int .u64 (p : Int)] rfl (SlV_one _ _ _) (by simp [Value.oneCell']) (by simp; unfold maxLen; omega) (by simp; omega) (by have := HB.out.size; simp; omega) ?_)
      intro v2' w3 hown2 hg2
      have hb2 : Below w2.heap.size w2 w3 := (HB.out.alloc HB.out.size _).grown hg2 (by have := HB.out.size; simp; omega) (fun j e => (HO.out.lt j e).1)
      have HO2 := Away.mk hown2; have HB3 := Away.mk hb2
      clear hown2 hg2 hb2
      go_wp2
      go_roundw
      case rel =>
        refine ⟨k + 1, s / 65536, out ++ [p], by omega, by simp, by simp, by omega, by simp [hol], HL.out.append (by intro u hu; show u < 65536; simp at hu; omega), ?_, by rw [C_append]; exact HO2.out, HB3.out⟩
        rw [val_append, val_one, hol, HV1.out, HV2.out, Nat.pow_succ, ← HP.out]
        have h1 := HV.out
        have h2 := HSS.out
        have h3 := Nat.mod_add_div s 65536
        generalize val W16 out = A at *
        generalize val W16 (es.take k) = T1 at *
        generalize val W16 (fs.take k) = T2 at *
        generalize W16 ^ k = P at *
        simp only [W16]
        generalize s % 65536 = u at *
        generalize s / 65536 = d at *
        subst h2
        grind
      case measure => simp [intOf]; omega
    · obtain rfl : k = m + 1 := by omega
      rw [List.take_of_length_le (by omega), List.take_of_length_le (by omega), HI1.out.1, HI2.out.1] at hval
      have hv := no_carry hval (sum_fits (by decide) (HI1.out.val_lt (by decide) (by omega)) (HI2.out.val_lt (by decide) (by omega)))
      have HT := Away.mk (whole_any _ out wr (SlV.ofOwn hown) holo (by omega))
      rw [hv] at HT
      have HBr := Away.mk (HB2.out.trans (hb.mono HB2.out.size))
      clear hval hown hb holo hv
      go_wp2_with fail
      refine HT.out.mono ?_
      rintro _ w6 ⟨v', rfl, hans, hb6⟩
      go_wp2
      go_ret
      exact ⟨_, rfl, hans, HBr.out.trans (hb6.mono HBr.out.size)⟩

set_option maxHeartbeats 1000000 in
theorem times_any (v : Value) (ys : List Nat) (q : Nat) (w : World) (hs : SlV w v (C .u64 ys)) (hl : Lo W16 ys) (hm : ys.length ≤ 300000) (hq : q < 65536) :
    Calls Tryd.prog 58 #[v, .int .u64 (q : Int)] w fun e w' => ∃ v' es, e = .returned v' ∧ Is W16 (val W16 ys * q) es ∧ es.length ≤ ys.length + 1 ∧ SlV w' v' (C .u64 es) ∧ Below w.heap.size w w' := by
  obtain ⟨n, hn⟩ : ∃ n, ys.length = n := ⟨_, rfl⟩
  have HS := Away.mk hs
  obtain ⟨a, cap, rfl, q1, r1⟩ := hs.shapeC hn
  rw [hn] at hm ⊢
  clear hs
  go_enter Tryd.func58, Tryd.ntmps58
  go_wp2
  go_loopw [5, 6, 7] (fun ov cv iv wr => ∃ (k c : Nat) (out : List Nat), k ≤ n + 1 ∧ iv = .int .i64 (k : Int) ∧ cv = .int .u64 (c : Int) ∧ c < 65536 ∧ out.length = k ∧ Lo W16 out ∧ val W16 out + W16 ^ k * c = val W16 (ys.take k) * q ∧ wr.ownsRow w.heap.size 22 1 ov k (C .u64 out) ∧ Below w.heap.size w wr) (fun _ _ i _ => n + 1 - (intOf i).toNat)
  case atStart => exact ⟨0, 0, [], Nat.zero_le _, rfl, rfl, by omega, rfl, Lo.nil _, by simp [val], own_empty w _ _ (Nat.le_refl _), (Below.refl _ _).alloc (Nat.le_refl _) _⟩
  case round =>
    obtain ⟨k, c, out, hk, rfl, rfl, hc, hol, holo, hval, hown, hb⟩ := hrel
    by_cases hlt : k < n + 1
    · have hd1 := digit_any _ ys k wr (HS.out.below hb) (by omega) (by omega)
      have hx1 : ys.getD k 0 < 65536 := hl.getD (by decide) _
      have hv1 := val_take_succ (B := W16) ys k
      generalize ys.getD k 0 = x at *
      have hxq : x * q ≤ 65535 * 65535 := Nat.mul_le_mul (by omega) (by omega)
      obtain ⟨z, hz⟩ : ∃ z, x * q = z := ⟨_, rfl⟩
      have hzi : (x : Int) * (q : Int) = (z : Int) := by rw [← hz]; simp
      rw [hz] at hxq
      obtain ⟨s, hs⟩ : ∃ s, c + z = s := ⟨_, rfl⟩
      obtain ⟨p, hp⟩ : ∃ p, s % 65536 = p := ⟨_, rfl⟩
      have e2 : (c : Int) + z = (s : Int) := by omega
      have hpb : p < 65536 := by omega
      have hsb : s < 4294967296 := by omega
      have e3 : (s : Int) % 65536 = (p : Int) := by omega
      have HD1 := Away.mk hd1; have HV1 := Away.mk hv1; have HV := Away.mk hval; have HO := Away.mk hown; have HB := Away.mk hb; have HL := Away.mk holo; have HSS := Away.mk hs; have HP := Away.mk hp; have HZ := Away.mk hz
      clear hd1 hv1 hval hown hb holo hs hp hz
      go_wp2_with fail
      refine HD1.out.mono ?_
      rintro _ w' ⟨rfl, rfl⟩
      go_wp2_with (at_builtin; refine wpList_append_sl rfl (.tmp 23) (.tmp 26) 59 rfl w.heap.size 22 (.int .u64 0) 8 Tryd.underlying59 Tryd.info22 rfl _ k _ rfl (HO.out.alloc _) _ [.int .u64 (p : Int)] rfl (SlV_one _ _ _) (by simp [Value.oneCell']) (by simp; unfold maxLen; omega) (by simp; omega) (by have := HB.out.size; simp; omega) ?_)
      intro v2' w3 hown2 hg2
      have hb2 : Below w.heap.size w w3 := (HB.out.alloc HB.out.size _).grown hg2 (by have := HB.out.size; simp; omega) (fun j e => (HO.out.lt j e).1)
      have HO2 := Away.mk hown2; have HB3 := Away.mk hb2
      clear hown2 hg2 hb2
      go_wp2
      go_roundw
      case rel =>
        refine ⟨k + 1, s / 65536, out ++ [p], by omega, by simp, by simp, by omega, by simp [hol], HL.out.append (by intro u hu; show u < 65536; simp at hu; omega), ?_, by rw [C_append]; exact HO2.out, HB3.out⟩
        rw [val_append, val_one, hol, HV1.out, Nat.pow_succ, ← HP.out]
        have h1 := HV.out
        have h2 := HSS.out
        have h3 := Nat.mod_add_div s 65536
        have h4 := HZ.out
        generalize val W16 out = A at *
        generalize val W16 (ys.take k) = T1 at *
        generalize W16 ^ k = P at *
        simp only [W16]
        generalize s % 65536 = u at *
        generalize s / 65536 = d at *
        subst h4
        subst h2
        grind
      case measure => simp [intOf]; omega
    · obtain rfl : k = n + 1 := by omega
      rw [List.take_of_length_le (by omega)] at hval
      have hyl := val_lt (B := W16) (by decide) hl
      rw [hn] at hyl
      have hfit : val W16 ys * q < W16 ^ (n + 1) := by
        rw [Nat.pow_succ]
        exact Nat.mul_lt_mul'' hyl hq
      have hv := no_carry hval hfit
      have HT := Away.mk (trim_any _ out wr (SlV.ofOwn hown) holo (by omega))
      rw [hv] at HT
      have HBr := Away.mk hb
      clear hval hown hb holo hv hyl hfit
      go_wp2_with fail
      refine HT.out.mono ?_
      rintro _ w6 ⟨v', es, rfl, hI, hle, hs6, rfl⟩
      go_wp2
      go_ret
      have hle' : es.length ≤ n + 1 := by omega
      first | exact ⟨_, es, rfl, hI, hle', hs6, HBr.out⟩ | exact ⟨_, rfl, es, hI, hle', hs6, HBr.out⟩

end Go.Proofs.YtdpahahfcdldcaaDoor
