/-
  Contracts of the document's Shr and Mul, over this seat's translation. Conditions: at most 100000 words.
-/
import Derived.Test.YtmbmabgdhdbmeaaRefF
import Derived.Deep.DeepCutAuto
import Derived.Deep.Cut
namespace Go.Proofs.Ytmbmabgdhdbmeaa
open Go.RowKit
set_option linter.unusedVariables false

theorem refshr_math {ds : List Nat} {r i : Nat} (hl : Lo W16 ds) (hr : r < 16) : (ds.getD i 0 + ds.getD (i + 1) 0 * 65536) / 2 ^ r % 65536 = val W16 ds / 2 ^ r / W16 ^ i % W16 := by
  have h2 := two_words (B := W16) (val W16 ds) i
  rw [← getD_val (by decide) hl, ← getD_val (by decide) hl] at h2
  rw [Nat.mul_comm _ 65536, show (65536 : Nat) = W16 from rfl, h2, shr_math (B := W16) (Nat.pow_pos (by decide)) (by decide) (pow_split16 (r := r) (by omega)), Nat.div_div_eq_div_mul, Nat.div_div_eq_div_mul, Nat.mul_comm]

set_option maxHeartbeats 2000000 in
theorem refshr_any (va : Value) (xs : List Nat) (ni : Int) (w : World) (ha : SlV w va (C .u32 xs)) (hx : Lo W32 xs) (hxm : xs.length ≤ 100000) (hni : ni ≤ 9223372036854775807) :
    Calls Try.prog 38 #[va, .int .i64 ni] w fun e w' => ∃ v', e = .returned v' ∧ RA w' v' (val W32 xs / 2 ^ ni.toNat) ∧ Below w.heap.size w w' := by
  obtain ⟨n, hnn⟩ : ∃ n : Nat, ni.toNat = n := ⟨_, rfl⟩
  obtain ⟨q, hq⟩ : ∃ q, n / 16 = q := ⟨_, rfl⟩
  obtain ⟨r, hr⟩ : ∃ r, n % 16 = r := ⟨_, rfl⟩
  have hnq : n = 16 * q + r := by omega
  have hr16 : r < 16 := by omega
  have e1 : (n : Int) / 16 = (q : Int) := by omega
  have e2 : (n : Int) % 16 = (r : Int) := by omega
  have hn63 : (n : Int) ≤ 9223372036854775807 := by omega
  rw [hnn]
  have HN := Away.mk hnq
  have HA := Away.mk ha
  have h2r : 2 ^ r < 65536 := Nat.lt_of_lt_of_le (Nat.pow_lt_pow_right (by decide) hr16) (by decide)
  have h2p : 0 < 2 ^ r := Nat.pow_pos (by decide)
  obtain ⟨t, ht⟩ : ∃ t, 2 ^ r = t := ⟨_, rfl⟩
  have eti : (2 : Int) ^ r = (t : Int) := by rw [← ht]; simp
  rw [ht] at h2r h2p
  have HT2 := Away.mk ht
  have hcase : (ni < 0 ∧ n = 0) ∨ (0 ≤ ni ∧ ni = (n : Int)) := by omega
  clear hq hr hnq ha ht hnn
  go_enter Try.func38, Try.ntmps38
  go_wp2_with fail
  refine (digits_any _ xs w HA.out hx hxm).mono ?_
  rintro _ w1 ⟨v1, es, rfl, hI, hl1, hs1, hb1⟩
  have HI := Away.mk hI; have HS := Away.mk hs1; have HB1 := Away.mk hb1
  clear hI hs1 hb1
  go_upto_if 12 with fail
  go_cut [1] (fun v1' wc => v1' = .int .i64 (n : Int) ∧ wc = w1)
  case first =>
    rcases hcase with ⟨h1, h2⟩ | ⟨h1, h2⟩
    · subst h2
      have d1 : decide (ni < 0) = true := decide_eq_true h1
      go_wp2
      go_meet
      case rel => exact ⟨rfl, rfl⟩
    · subst h2
      have d1 : decide ((n : Int) < 0) = false := decide_eq_false (by omega)
      go_wp2
      go_meet
      case rel => exact ⟨rfl, rfl⟩
  case rest =>
    obtain ⟨rfl, rfl⟩ := hcut
    obtain ⟨m, hm⟩ : ∃ n, es.length = n := ⟨_, rfl⟩
    obtain ⟨a, cap, rfl, q1, r1⟩ := HS.out.shapeC hm
    have hmm : m ≤ 200000 := by omega
    by_cases hqm : m ≤ q
    · have d1 : decide (m ≤ q) = true := decide_eq_true hqm
      go_wp2
      go_ret
      have hz : val W32 xs / 2 ^ n = 0 := by
        apply Nat.div_eq_of_lt
        have h1 := HI.out.val_lt (by decide) (show es.length ≤ q by omega)
        rw [pow16] at h1
        exact Nat.lt_of_lt_of_le h1 (Nat.pow_le_pow_right (by decide) (by rw [HN.out]; omega))
      refine ⟨_, rfl, ?_, HB1.out.alloc HB1.out.size _⟩
      rw [hz]
      exact ⟨[], Is.nil, SlV.ofOwn (own_empty wc w.heap.size 47 HB1.out.size)⟩
    · have d1 : decide (m ≤ q) = false := decide_eq_false hqm
      have hsq := HS.out.cut q (m - q) (by omega)
      rw [← C_drop, ← C_take, List.take_of_length_le (by rw [List.length_drop]; omega)] at hsq
      obtain ⟨b, off, hab, hbl, hcx⟩ := HS.out.cells (by rw [C_length]; omega)
      have hfin : val W16 (es.drop q) / 2 ^ r = val W32 xs / 2 ^ n := by
        rw [val_div (by decide) HI.out.2.1, HI.out.1, pow16, Nat.div_div_eq_div_mul, ← Nat.pow_add, HN.out]
      obtain ⟨ds, hds⟩ : ∃ ds, es.drop q = ds := ⟨_, rfl⟩
      have hdl : ds.length = m - q := by rw [← hds, List.length_drop]; omega
      have hdlo : Lo W16 ds := by rw [← hds]; exact HI.out.2.1.drop q
      rw [hds] at hsq hfin
      subst hab
      simp only [Option.map_some, Addr.add_lit] at hsq
      obtain ⟨l, hl⟩ : ∃ l, m - q = l := ⟨_, rfl⟩
      rw [hl] at hsq hdl
      obtain ⟨c2, hc2⟩ : ∃ c, cap - q = c := ⟨_, rfl⟩
      rw [hc2] at hsq
      have HSQ := Away.mk hsq; have HF := Away.mk hfin
      have hcq : cap ≠ q := by omega
      have hlc : l ≤ c2 := by omega
      have HL2 := Away.mk hl; have HC2 := Away.mk hc2
      have hlm : l ≤ 200000 := by omega
      clear hsq hfin hcx hds
      go_wp2
      go_loopw [6, 7] (fun ov iv wr => ∃ (k : Nat) (out : List Nat), k ≤ l ∧ iv = .int .i64 (k : Int) ∧ out.length = k ∧ Lo W16 out ∧ (∀ j, j < k → out.getD j 0 = val W16 ds / 2 ^ r / W16 ^ j % W16) ∧ wr.ownsRow wc.heap.size 40 1 ov k (C .u64 out) ∧ Below wc.heap.size wc wr) (fun _ i _ => l - (intOf i).toNat)
      case atStart => exact ⟨0, [], Nat.zero_le _, rfl, rfl, Lo.nil _, fun j hj => by omega, own_empty wc _ _ (Nat.le_refl _), (Below.refl _ _).alloc (Nat.le_refl _) _⟩
      case round =>
        obtain ⟨k, out, hk, rfl, hol, holo, hval, hown, hb⟩ := hrel
        by_cases hlt : k < l
        · obtain ⟨b', off', e', hbl', hcx⟩ := HSQ.out.cells (by rw [C_length]; omega)
          simp only [Option.some.injEq, Addr.mk.injEq, and_true] at e'
          obtain ⟨rfl, rfl⟩ := e'
          have hck : wr.cell? ⟨b, off + q + k, none⟩ = some (.int .u64 (ds.getD k 0 : Nat)) := (hb.cell (p := ⟨b, off + q + k, none⟩) hbl').trans (hcx k _ (C_get _ (by omega)))
          have hd2 := digit_any _ ds (k + 1) wr.drew ((HSQ.out.below hb).below ((Below.refl _ _).drew)) (by omega) (by omega)
          rw [show ((k + 1 : Nat) : Int) = (k : Int) + 1 by omega] at hd2
          have ewk : IntKind.i64.wrap ((k : Int) + 1) = (k : Int) + 1 := by rw [IntKind.wrap_i64]; omega
          have hx1 : ds.getD k 0 < 65536 := hdlo.getD (by decide) _
          have hx2 : ds.getD (k + 1) 0 < 65536 := hdlo.getD (by decide) _
          have hmath := refshr_math (i := k) hdlo hr16
          rw [HT2.out] at hmath
          obtain ⟨x, hxx⟩ : ∃ x, ds.getD k 0 = x := ⟨_, rfl⟩
          obtain ⟨y, hyy⟩ : ∃ y, ds.getD (k + 1) 0 = y := ⟨_, rfl⟩
          rw [hxx] at hck hx1 hmath
          rw [hyy] at hd2 hx2 hmath
          obtain ⟨s, hs⟩ : ∃ s, x + y * 65536 = s := ⟨_, rfl⟩
          have e3 : (x : Int) + (y : Int) * 65536 = (s : Int) := by omega
          have hsb : s < 4294967296 := by omega
          rw [hs] at hmath
          obtain ⟨dq, hdq⟩ : ∃ dq, s / t = dq := ⟨_, rfl⟩
          have hdqs : dq ≤ s := by rw [← hdq]; exact Nat.div_le_self _ _
          have e6 : (s : Int) / (t : Int) = (dq : Int) := by rw [← hdq]; simp
          rw [hdq] at hmath
          obtain ⟨p, hp⟩ : ∃ p, dq % 65536 = p := ⟨_, rfl⟩
          have hpb : p < 65536 := by omega
          have e4 : (dq : Int) % 65536 = (p : Int) := by omega
          rw [hp] at hmath
          have ht0 : (t : Int) ≠ 0 := by omega
          have htn : t ≠ 0 := by omega
          have HD2 := Away.mk hd2; have HV := Away.mk hval; have HO := Away.mk hown; have HBB := Away.mk hb; have HL := Away.mk holo; have HMA := Away.mk hmath; have E4 := Away.mk e4; have E3 := Away.mk e3
          clear hd2 hval hown hb holo hs hp hcx hmath hxx hyy hl hc2 hdq
          go_wp2
          refine wp_region_noPanic ?_
          refine wp_region_held_drew (S := fun w' => w'.cell? ⟨b, off + q + k, none⟩ = some (.int .u64 (x : Int))) (by kernel_rfl) (hck) (fun hHeld => ?_)
          refine wpAnyH_takeL (i := 0) (v := ?v0) rfl (by kernel_rfl) (by kernel_rfl) (by kernel_rfl) (fun _ _ _ h => h) (by rfl) ?h0 (by assumption) ?_
          case h0 => intro w hSw; go_simp <;> with_reducible rfl
          simp only [Act.put, List.setIfInBounds_toArray, List.set_cons_zero, List.set_cons_succ]
          refine wpAnyH_takeL (i := 1) (v := ?v1) rfl (by kernel_rfl) (by kernel_rfl) (by kernel_rfl) (fun _ _ _ h => h) (by rfl) ?h1 (by assumption) ?_
          case h1 => intro w hSw; go_simp <;> with_reducible rfl
          simp only [Act.put, List.setIfInBounds_toArray, List.set_cons_zero, List.set_cons_succ]
          refine wpAnyH_takeL (i := 2) (v := ?v2) rfl (by kernel_rfl) (by kernel_rfl) (by kernel_rfl) (fun _ _ _ h => h) (by rfl) ?h2 (by assumption) ?_
          case h2 => intro w hSw; go_simp <;> with_reducible rfl
          simp only [Act.put, List.setIfInBounds_toArray, List.set_cons_zero, List.set_cons_succ]
          refine wpAnyH_takeL (i := 3) (v := ?v3) rfl (by kernel_rfl) (by kernel_rfl) (by kernel_rfl) (fun _ _ _ h => h) (by rfl) ?h3 (by assumption) ?_
          case h3 => intro w hSw; go_simp <;> with_reducible rfl
          simp only [Act.put, List.setIfInBounds_toArray, List.set_cons_zero, List.set_cons_succ]
          refine wpAnyH_takeL (i := 4) (v := ?v4) rfl (by kernel_rfl) (by kernel_rfl) (by kernel_rfl) (fun _ _ _ h => h) (by rfl) ?h4 (by assumption) ?_
          case h4 => intro w hSw; go_simp <;> with_reducible rfl
          simp only [Act.put, List.setIfInBounds_toArray, List.set_cons_zero, List.set_cons_succ]
          refine wpAnyH_takeL (i := 5) (v := ?v5) rfl (by kernel_rfl) (by kernel_rfl) (by kernel_rfl) (fun _ _ _ h => h) (by rfl) ?h5 (by assumption) ?_
          case h5 => intro w hSw; go_simp <;> with_reducible rfl
          simp only [Act.put, List.setIfInBounds_toArray, List.set_cons_zero, List.set_cons_succ]
          refine wpAnyH_takeL (i := 6) (v := ?v6) rfl (by kernel_rfl) (by kernel_rfl) (by kernel_rfl) (fun _ _ _ h => h) (by rfl) ?h6 (by assumption) ?_
          case h6 => intro w hSw; go_simp <;> with_reducible rfl
          simp only [Act.put, List.setIfInBounds_toArray, List.set_cons_zero, List.set_cons_succ]
          refine allReadyH_oneL (i := 7) (by kernel_rfl) rfl (by rfl) (fun K hK => ?_)
          go_simp
          with_reducible refine HD2.out.mono ?_
          rintro _ w' ⟨rfl, rfl⟩
          refine hK.out _ _ (hck) (fun hHeld => ?_)
          clear hK K
          refine wpAnyH_takeL (i := 8) (v := ?v8) rfl (by kernel_rfl) (by kernel_rfl) (by kernel_rfl) (fun _ _ _ h => h) (by rfl) ?h8 (by assumption) ?_
          case h8 => intro w hSw; go_simp <;> with_reducible rfl
          simp only [Act.put, List.setIfInBounds_toArray, List.set_cons_zero, List.set_cons_succ]
          refine wpAnyH_takeL (i := 9) (v := ?v9) rfl (by kernel_rfl) (by kernel_rfl) (by kernel_rfl) (fun _ _ _ h => h) (by rfl) ?h9 (by assumption) ?_
          case h9 => intro w hSw; go_simp <;> with_reducible rfl
          simp only [Act.put, List.setIfInBounds_toArray, List.set_cons_zero, List.set_cons_succ]
          refine wpAnyH_takeL (i := 10) (v := ?v10) rfl (by kernel_rfl) (by kernel_rfl) (by kernel_rfl) (fun _ _ _ h => h) (by rfl) ?h10 (by assumption) ?_
          case h10 => intro w hSw; go_simp <;> with_reducible rfl
          simp only [Act.put, List.setIfInBounds_toArray, List.set_cons_zero, List.set_cons_succ]
          refine wpAnyH_done (by kernel_rfl) ?_ _
          refine NoPanic.normal ?_
          have eS : IntKind.u64.wrap ((x : Int) + IntKind.u64.wrap ((y : Int) * 65536)) = (s : Int) := by
            simp only [wrapU]; have := E3.out; omega
          first | rw [eS] | skip
          have hOd : wr.drew.ownsRow wc.heap.size 40 1 u6 k (C .u64 out) := HO.out
          have HOd := Away.mk hOd
          have HBd := Away.mk HBB.out.drew
          clear hOd eS hHeld
          go_wp2_with (at_builtin; refine wpList_append_sl rfl (.tmp 40) (.tmp 48) 53 rfl wc.heap.size 40 (.int .u64 0) 8 Try.underlying53 Try.info40 rfl _ k _ rfl (HOd.out.alloc _) _ [.int .u64 (p : Int)] rfl (SlV_one _ _ _) (by simp [Value.oneCell']) (by simp; unfold maxLen; omega) (by simp; omega) (by have := HBB.out.size; simp; omega) ?_)
          intro v2' w3 hown2 hg2
          have hb2 : Below wc.heap.size wc w3 := (HBd.out.alloc HBd.out.size _).grown hg2 (by have := HBB.out.size; simp; omega) (fun j e => (HO.out.lt j e).1)
          have HO2 := Away.mk hown2; have HB3 := Away.mk hb2
          clear hown2 hg2 hb2
          go_wp2
          go_roundw
          case rel =>
            refine ⟨k + 1, out ++ [p], by omega, by simp, by simp [hol], HL.out.append (by intro u hu; show u < 65536; simp at hu; omega), fun j hj => ?_, by rw [C_append]; exact HO2.out, HB3.out⟩
            by_cases hjk : j = k
            · subst hjk
              rw [HT2.out, ← HMA.out]; simp [List.getD, hol]
            · rw [← HV.out j (by omega)]
              simp [List.getD, List.getElem?_append_left (show j < out.length by omega)]
          case measure => simp [intOf]; omega
        · obtain rfl : k = l := by omega
          have hv := val_of_digits (B := W16) (xs := out) (M := val W16 ds / 2 ^ r) (by decide) (fun i hi => hval i (by omega))
          have hdl2 := val_lt (B := W16) (by decide) hdlo
          rw [hol, Nat.mod_eq_of_lt (Nat.lt_of_le_of_lt (Nat.div_le_self _ _) (by rw [hdl] at hdl2; exact hdl2)), HF.out] at hv
          have HT := Away.mk (whole_any _ out wr (SlV.ofOwn hown) holo (by omega))
          rw [hv] at HT
          have HBr := Away.mk (HB1.out.trans (hb.mono HB1.out.size))
          clear hval hown hb holo hv hdl2 hl hc2
          go_wp2_with fail
          refine HT.out.mono ?_
          rintro _ w6 ⟨v', rfl, hans, hb6⟩
          go_wp2
          go_ret
          exact ⟨_, rfl, hans, HBr.out.trans (hb6.mono HBr.out.size)⟩
end Go.Proofs.Ytmbmabgdhdbmeaa
