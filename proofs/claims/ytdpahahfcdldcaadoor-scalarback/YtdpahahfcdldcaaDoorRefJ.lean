/-
  Contract of the document's Div, over this seat's translation. Conditions: at most 100000 words.
-/
import Derived.Test.YtdpahahfcdldcaaDoorRefI
namespace Go.Proofs.YtdpahahfcdldcaaDoor
open Go.RowKit
set_option linter.unusedVariables false

theorem trim_own (v : Value) (ds : List Nat) (w : World) (hs : SlV w v (C .u64 ds)) (hl : Lo W16 ds) (hm : ds.length ≤ 1000000) :
    Calls Tryd.prog 54 #[v] w fun e w' => ∃ v' es, e = .returned v' ∧ Is W16 (val W16 ds) es ∧ es.length ≤ ds.length ∧ SlV w v' (C .u64 es) ∧ v'.ownBlock = v.ownBlock ∧ w = w' := by
  obtain ⟨n, hn⟩ : ∃ n, ds.length = n := ⟨_, rfl⟩
  obtain ⟨a, cap, rfl, q1, r1⟩ := hs.shapeC hn
  rw [hn] at hm
  go_enter Tryd.func54, Tryd.ntmps54
  go_wp2
  go_loop [3] (fun i => ∃ k : Nat, k ≤ n ∧ i = .int .i64 (k : Int) ∧ ∀ j, k ≤ j → ds.getD j 0 = 0) (fun i => (intOf i).toNat)
  case atStart => exact ⟨n, Nat.le_refl _, rfl, fun j hj => getD_past (by omega)⟩
  case round =>
    obtain ⟨k, hk, rfl, hz⟩ := hrel
    have hend : ds.getD (k - 1) 0 ≠ 0 ∨ k = 0 → ∃ es, Is W16 (val W16 ds) es ∧ es.length ≤ n ∧ SlV w (.slice a k cap) (C .u64 es) := fun h => by
      refine ⟨ds.take k, ?_, by rw [List.length_take]; omega, by rw [C_take]; exact hs.upto k hk⟩
      have hlen : (ds.take k).length = k := by rw [List.length_take]; omega
      have h1 := Is.ofLast (B := W16) (hl.take k) (fun hp => by
        rw [hlen] at hp ⊢
        rw [getD_take _ _ _ (by omega)]
        rcases h with h | h
        · exact h
        · omega)
      have h2 : val W16 (ds.take k) = val W16 ds := by
        have := val_take_drop (B := W16) ds k (by omega)
        rw [val_drop_zero hz] at this
        omega
      rwa [h2] at h1
    have HE := Away.mk hend; have HZ := Away.mk hz
    clear hend hz
    by_cases h0 : k = 0
    · subst h0
      go_wp2
      go_ret
      obtain ⟨es, g1, g2, g3⟩ := HE.out (by simp)
      exact ⟨_, rfl, es, g1, g2, g3, (by show Value.ownBlock (.slice a 0 cap) = Value.ownBlock (.slice a n cap); cases a <;> rfl), rfl⟩
    · obtain ⟨b, off, rfl, hb, hc⟩ := hs.cells (by rw [C_length]; omega)
      have hck := hc (k - 1) _ (C_get _ (by omega))
      have e1 : (k : Int) - 1 = ((k - 1 : Nat) : Int) := by omega
      obtain ⟨p, hp⟩ : ∃ p, k - 1 = p := ⟨_, rfl⟩
      rw [hp] at hck e1 HE
      have hpk : p < n := by omega
      have HP := Away.mk hp
      obtain ⟨x, hx⟩ : ∃ x, ds.getD p 0 = x := ⟨_, rfl⟩
      rw [hx] at hck HE
      have HX := Away.mk hx
      clear hc hp hx
      have HS := Away.mk hs
      clear hs
      by_cases hx0 : x = 0
      · subst hx0
        go_wp2
        go_round
        case rel =>
          have hp := HP.out
          refine ⟨p, by omega, rfl, fun j hj => ?_⟩
          by_cases h : j = p
          · rw [h]; exact HX.out
          · exact HZ.out j (by omega)
        case measure => have hp := HP.out; simp [intOf]; omega
      · have d0 : ((x : Int) == 0) = false := by simpa using hx0
        go_wp2
        go_ret
        obtain ⟨es, g1, g2, g3⟩ := HE.out (.inl hx0)
        first | exact ⟨_, es, rfl, g1, g2, g3, rfl, rfl⟩ | exact ⟨_, rfl, es, g1, g2, g3, rfl, rfl⟩

theorem div_round {B T D x : Nat} (hD : 0 < D) (hx : x < B) :
    (x + B * T) / D = (x + B * (T % D)) / D + B * (T / D) ∧ (x + B * T) % D = (x + B * (T % D)) % D ∧ x + B * (T % D) < D * B := by
  have h := Nat.mod_add_div T D
  have hl := Nat.mod_lt T hD
  have e : x + B * T = (x + B * (T % D)) + D * (B * (T / D)) := by
    generalize T % D = m at *
    generalize T / D = q at *
    subst h
    grind
  refine ⟨by rw [e, Nat.add_mul_div_left _ _ hD], by rw [e, Nat.add_mul_mod_self_left], ?_⟩
  have : B * (T % D) ≤ B * (D - 1) := Nat.mul_le_mul_left _ (by omega)
  have h2 : B * (D - 1) + B = D * B := by
    obtain ⟨d, rfl⟩ : ∃ d, D = d + 1 := ⟨D - 1, by omega⟩
    rw [Nat.add_sub_cancel]
    grind
  omega
theorem val_drop_step {B : Nat} {xs : List Nat} {j : Nat} (h : j < xs.length) : val B (xs.drop j) = xs.getD j 0 + B * val B (xs.drop (j + 1)) := by
  rw [List.drop_eq_getElem_cons h]
  simp [val, List.getD, h]

theorem refdiv_zero (va vb : Value) (xs ys : List Nat) (w : World) (ha : SlV w va (C .u32 xs)) (hb : SlV w vb (C .u32 ys)) (hx : Lo W32 xs) (hy : Lo W32 ys) (hxm : xs.length ≤ 100000) (hym : ys.length ≤ 100000) (h0 : val W32 ys = 0) :
    Calls Tryd.prog 43 #[va, vb] w fun e w' => e = .returned (.tuple #[.slice none 0 0, .slice none 0 0, .int .i64 1]) ∧ Below w.heap.size w w' := by
  have HA := Away.mk ha; have HB := Away.mk hb; have H0 := Away.mk h0
  clear ha hb h0
  go_enter Tryd.func43, Tryd.ntmps43
  go_wp2_with fail
  refine (digits_any _ xs w HA.out hx hxm).mono ?_
  rintro _ w1 ⟨v1, es, rfl, hI1, hl1, hs1, hb1⟩
  go_wp2_with fail
  refine (digits_any _ ys w1 (HB.out.below hb1) hy hym).mono ?_
  rintro _ w2 ⟨v2, fs, rfl, hI2, hl2, hs2, hb2⟩
  rw [H0.out] at hI2
  obtain rfl := hI2.zero (by decide)
  obtain ⟨a2, c2, rfl, q2, r2⟩ := hs2.shapeC (n := 0) rfl
  have HBB := Away.mk (hb1.trans (hb2.mono hb1.size))
  clear hs1 hs2 hb1 hb2 hI1 hI2
  go_wp2
  go_ret3
  exact ⟨rfl, HBB.out⟩

set_option maxHeartbeats 4000000 in
theorem refdiv_any (va vb : Value) (xs ys : List Nat) (w : World) (ha : SlV w va (C .u32 xs)) (hb : SlV w vb (C .u32 ys)) (hx : Lo W32 xs) (hy : Lo W32 ys) (hxm : xs.length ≤ 100000) (hym : ys.length ≤ 100000) (h0 : val W32 ys ≠ 0) :
    Calls Tryd.prog 43 #[va, vb] w fun e w' => ∃ vq vr, e = .returned (.tuple #[vq, vr, .int .i64 0]) ∧ RA w' vq (val W32 xs / val W32 ys) ∧ RA w' vr (val W32 xs % val W32 ys) ∧ Below w.heap.size w w' := by
  obtain ⟨i0, hi, hz0, hz1, hz2⟩ := info_parts Tryd.info22
  have HA := Away.mk ha; have HB := Away.mk hb
  obtain ⟨D, hD⟩ : ∃ D, val W32 ys = D := ⟨_, rfl⟩
  have hDig := fun x hx' => digits_any vb ys x hx' hy hym
  rw [hD] at h0 ⊢ hDig
  have hDp : 0 < D := by omega
  have HDG := Away.mk hDig
  clear ha hb hDig h0 hD
  go_enter Tryd.func43, Tryd.ntmps43
  go_wp2_with fail
  refine (digits_any _ xs w HA.out hx hxm).mono ?_
  rintro _ w1 ⟨v1, es, rfl, hI1, hl1, hs1, hb1⟩
  go_wp2_with fail
  refine (HDG.out w1 (HB.out.below hb1)).mono ?_
  rintro _ w2 ⟨v2, fs, rfl, hI2, hl2, hs2, hb2⟩
  have hs1 := hs1.below hb2
  have hb02 : Below w.heap.size w w2 := hb1.trans (hb2.mono hb1.size)
  obtain ⟨n1, hn1⟩ : ∃ n, es.length = n := ⟨_, rfl⟩
  obtain ⟨n2, hn2⟩ : ∃ n, fs.length = n := ⟨_, rfl⟩
  obtain ⟨a1, c1, rfl, q1, r1⟩ := hs1.shapeC hn1
  obtain ⟨a2, c2, rfl, q2, r2⟩ := hs2.shapeC hn2
  have hn2p : n2 ≠ 0 := by
    rintro rfl
    obtain rfl := List.eq_nil_of_length_eq_zero hn2
    have : D = 0 := hI2.1.symm
    omega
  have hmm : n1 ≤ 200000 ∧ n2 ≤ 200000 := by omega
  have hn2z : ((n2 : Int) == 0) = false := by simp; omega
  have HS1 := Away.mk hs1; have HS2 := Away.mk hs2; have HI1 := Away.mk hI1; have HI2 := Away.mk hI2; have HB2 := Away.mk hb02
  obtain ⟨g, hg⟩ : ∃ g, w2.heap.size = g := ⟨_, rfl⟩
  clear hs1 hs2 hI1 hI2 hb1 hb2 hb02 HA HB hl1 hl2 HDG
  go_wp2_with (at_make; refine wpList_make_full _ rfl _ _ 59 rfl w2.heap.size 22 i0 _ 1 Tryd.underlying59 hi hz0 hz1 _ _ _ _ n1 rfl rfl (by omega) (by omega) (by rw [hz2]; omega) (by unfold maxLen; omega) (Nat.le_refl _) ?_)
  intro w3 hown hg3
  have hr3 := Row.ofOwn (own_made hown)
  rw [← C_zeros] at hr3
  have hB3 : Below w2.heap.size w2 w3 := (Below.refl _ w2).grown hg3 (Nat.le_refl _) (by simp)
  have HR3 := Away.mk hr3; have HB3 := Away.mk hB3; have HG := Away.mk hg
  have HSZ := Away.mk hr3.lt
  clear hown hg3 hr3 hB3 hg
  go_wp2
  go_loopw [10, 11] (fun rv iv wr => ∃ (k : Nat) (rs qs : List Nat), k ≤ n1 ∧ iv = .int .i64 ((k : Int) - 1) ∧ Is W16 (val W16 (es.drop k) % D) rs ∧ SlV wr rv (C .u64 rs) ∧ qs.length = n1 ∧ Lo W16 qs ∧ (∀ j, j < k → qs.getD j 0 = 0) ∧ val W16 (qs.drop k) = val W16 (es.drop k) / D ∧ Row wr g 22 (C .u64 qs) ∧ Below w2.heap.size w2 wr) (fun _ i _ => (intOf i + 1).toNat)
  case atStart =>
    refine ⟨n1, [], _, Nat.le_refl _, rfl, ?_, ?_, by simp, Lo.zeros (by decide) _, fun j hj => by rw [List.getD, List.getElem?_replicate]; split <;> rfl, ?_, HR3.out.alloc _, HB3.out.alloc HB3.out.size _⟩
    · rw [List.drop_of_length_le (by omega)]; simp [val]; exact Is.nil
    · exact SlV.ofOwn (own_empty w3 w3.heap.size 22 (Nat.le_refl _))
    · rw [List.drop_of_length_le (by omega : es.length ≤ n1), List.drop_of_length_le (by simp : (List.replicate n1 0).length ≤ n1)]; simp [val]
  case round =>
    obtain ⟨k, rs, qs, hk, rfl, hIr, hsr, hql, hqlo, hqz, hqv, hr, hb⟩ := hrel
    rcases Nat.eq_zero_or_pos k with hk0 | hkp
    · subst hk0
      rw [List.drop_zero, HI1.out.1] at hIr
      rw [List.drop_zero, List.drop_zero, HI1.out.1] at hqv
      have hsl := hr.slAll (by rw [C_length]; unfold maxLen; omega)
      rw [C_length, hql] at hsl
      have HT := Away.mk (whole_any _ qs wr hsl hqlo (by omega))
      rw [hqv] at HT
      have hrm : rs.length ≤ n2 := (hIr.len (by decide) n2).2 (Nat.lt_trans (Nat.mod_lt _ hDp) (HI2.out.val_lt (by decide) (by omega)))
      have HSR := Away.mk hsr; have HIR := Away.mk hIr
      have HBr := Away.mk (HB2.out.trans (hb.mono HB2.out.size))
      clear hqv hr hb hqlo hsl hqz hsr hIr
      go_wp2_with fail
      refine HT.out.mono ?_
      rintro _ w6 ⟨v60, rfl, hans, hb6⟩
      have HT2 := Away.mk (whole_any _ rs w6 (HSR.out.below hb6) HIR.out.2.1 (by omega))
      rw [HIR.out.1] at HT2
      have HAN := Away.mk hans
      replace HBr := Away.mk (HBr.out.trans (hb6.mono HBr.out.size))
      clear hans hb6
      go_wp2_with fail
      refine HT2.out.mono ?_
      rintro _ w7 ⟨v62, rfl, hans2, hb7⟩
      go_wp2
      go_ret3
      exact ⟨_, _, rfl, HAN.out.below hb7, hans2, HBr.out.trans (hb7.mono HBr.out.size)⟩
    · obtain ⟨j, rfl⟩ : ∃ j, k = j + 1 := ⟨k - 1, by omega⟩
      have hj : j < n1 := by omega
      obtain ⟨b, off, rfl, hbl, hcx⟩ := HS1.out.cells (by rw [C_length]; omega)
      have hck := (hb.cell (p := ⟨b, off + j, none⟩) hbl).trans (hcx j _ (C_get _ (by omega)))
      have hx1 : es.getD j 0 < 65536 := HI1.out.2.1.getD (by decide) _
      have hst := val_drop_step (B := W16) (xs := es) (j := j) (by omega)
      have hqst := val_drop_step (B := W16) (xs := qs) (j := j) (by omega)
      have hqst2 := fun z => val_drop_step (B := W16) (xs := qs.set j z) (j := j) (by simp; omega)
      obtain ⟨x, hxx⟩ : ∃ x, es.getD j 0 = x := ⟨_, rfl⟩
      rw [hxx] at hck hx1 hst
      obtain ⟨T, hT⟩ : ∃ T, val W16 (es.drop (j + 1)) = T := ⟨_, rfl⟩
      rw [hT] at hst hIr hqv
      obtain ⟨hd1, hd2, hd3⟩ := div_round (B := W16) (T := T) (D := D) (x := x) hDp hx1
      rw [← hst] at hd1 hd2
      have hup : val W16 (x :: rs) = x + W16 * (T % D) := by show x + W16 * val W16 rs = _; rw [hIr.1]
      obtain ⟨R, hR⟩ : ∃ R, x + W16 * (T % D) = R := ⟨_, rfl⟩
      rw [hR] at hd1 hd2 hd3 hup
      have hrm : rs.length ≤ n2 := (hIr.len (by decide) n2).2 (Nat.lt_trans (Nat.mod_lt _ hDp) (HI2.out.val_lt (by decide) (by omega)))
      have hulo : Lo W16 (x :: rs) := by
        intro u hu
        rcases List.mem_cons.1 hu with h | h
        · rw [h]; exact hx1
        · exact hIr.2.1 u h
      have hown1 := (Row.new wr 22 [.int .u64 (x : Int)]).owns (base := g + 1) (n := 1) (cap := 1) (by have := hr.lt; omega) (by simp) (by simp; unfold maxLen; omega)
      have hgs := hr.lt
      have HO1 := Away.mk hown1; have HSR := Away.mk (hsr.below ((Below.refl _ wr).alloc (Nat.le_refl _) (.cells #[.int .u64 (x : Int)] 22)))
      have HR := Away.mk hr; have HB := Away.mk hb; have HQV := Away.mk hqv; have HQL := Away.mk hqlo; have HQZ := Away.mk hqz; have HD1 := Away.mk hd1; have HD2 := Away.mk hd2; have HD3 := Away.mk hd3; have HUP := Away.mk hup; have HUL := Away.mk hulo; have HQS := Away.mk hqst; have HQS2 := Away.mk hqst2
      clear hown1 hsr hr hb hqv hqlo hqz hd1 hd2 hd3 hup hulo hqst hqst2 hst hR hT hxx hcx hIr
      rw [show (((j + 1 : Nat) : Int) - 1) = (j : Int) by omega]
      go_wp2_with (at_builtin; refine wpList_append_sl rfl (.tmp 36) (.tmp 37) 59 rfl (g + 1) 22 (.int .u64 0) 8 Tryd.underlying59 Tryd.info22 rfl _ 1 _ rfl HO1.out _ (C .u64 rs) rfl HSR.out (C_one _ _) (by rw [C_length]; unfold maxLen; omega) (by rw [C_length]; omega) (by simp; omega) ?_)
      intro v38 w5 hown5 hg5
      have hown5' : w5.ownsRow (g + 1) 22 1 v38 (1 + (C .u64 rs).length) (C .u64 (x :: rs)) := hown5
      have hs5 := SlV.ofOwn hown5'
      have hlt5 : ∀ k, v38.ownBlock = some k → g + 1 ≤ k := fun k e => (hown5'.lt k e).1
      have hb5 : Below w2.heap.size w2 w5 := (HB.out.alloc HB.out.size _).grown hg5 (by have := HB.out.size; simp; omega) (fun k e => by have := HB.out.size; simp [Value.ownBlock] at e; omega)
      have hr5 : Row w5 g 22 (C .u64 qs) := (HR.out.alloc _).grown hg5 (by simp [Value.ownBlock]; omega)
      have HTR := Away.mk (trim_own v38 (x :: rs) w5 hs5 HUL.out (by simp; omega))
      rw [HUP.out] at HTR
      have HR5 := Away.mk hr5; have HB5 := Away.mk hb5; have HLT := Away.mk hlt5
      have hus := hrm
      clear hown5 hown5' hg5 hs5 hlt5 hb5 hr5 HO1 HSR HR HB
      go_wp2_with fail
      refine HTR.out.mono ?_
      rintro _ w5' ⟨v40, us, rfl, hIu, hul, hsu, hbu, rfl⟩
      have hulen : us.length ≤ 200001 := by simp at hul; omega
      have hub : ∀ k, v40.ownBlock = some k → some k ≠ some g := fun k e h => by
        rw [hbu] at e
        have := HLT.out k e
        cases h
        omega
      have HCM := Away.mk (compare_any v40 _ us fs w5 hsu (HS2.out.below HB5.out) hIu.2.1 HI2.out.2.1 (by omega) (by omega))
      rw [hIu.1, HI2.out.1] at HCM
      have HIU := Away.mk hIu; have HSU := Away.mk hsu; have HUB := Away.mk hub
      clear hIu hul hsu hbu hub HTR
      go_wp2_with fail
      refine HCM.out.mono ?_
      rintro _ w5'' ⟨rfl, rfl⟩
      by_cases hge : D ≤ R
      · have hc : decide (0 ≤ cmpI R D) = true := decide_eq_true (by
          rcases Int.lt_or_le (cmpI R D) 0 with h | h
          · have := cmpI_neg.1 h; omega
          · exact h)
        have HNX := Away.mk (next_any v40 _ us fs D w5 HSU.out (HS2.out.below HB5.out) HIU.out.2.1 HI2.out hDp (by omega) (by omega) (by rw [HIU.out.1]; exact HD3.out))
        rw [HIU.out.1] at HNX
        obtain ⟨qd, hqd⟩ : ∃ qd, R / D = qd := ⟨_, rfl⟩
        rw [hqd] at HNX
        have hqd1 : qd < 65536 := by rw [← hqd]; exact Nat.div_lt_of_lt_mul HD3.out
        have hmd := Nat.mod_add_div R D
        rw [hqd] at hmd
        have HQD := Away.mk hqd; have HMD := Away.mk hmd
        generalize cmpI R D = cc at *
        clear HCM hqd hmd hge
        go_wp2_with fail
        refine HNX.out.mono ?_
        rintro _ w6 ⟨rfl, hb6⟩
        have hr6 := HR5.out.belowS hb6
        have hco := (hr6.cell j).trans (C_get _ (by omega))
        generalize qs.getD j 0 = old at hco
        have hfo := hr6.frozen j
        have hs6 := (HSU.out.below hb6).grown (grown_set w6 g j (.int .u64 (qd : Int))) HUB.out
        have hb62 : Below w2.heap.size w2 w6 := HB5.out.trans (hb6.mono HB5.out.size)
        have hb7 : Below w2.heap.size w2 (w6.setCell ⟨g, j, none⟩ (.int .u64 (qd : Int))) := hb62.setCell (p := ⟨g, j, none⟩) (by rw [HG.out]; exact Nat.le_refl g) _
        have hr7 := hr6.set j (.int .u64 (qd : Int))
        rw [← C_set] at hr7
        have HR7 := Away.mk hr7; have HS6 := Away.mk hs6; have HB7 := Away.mk hb7
        clear hr6 hs6 hb62 hb7 hb6 hr7 HNX HSU HR5 HB5
        go_wp2_with fail
        refine (times_any _ fs qd _ (HS2.out.below HB7.out) HI2.out.2.1 (by omega) hqd1).mono ?_
        rintro _ w8 ⟨v57, ts, rfl, hIt, htl, hst, hb8⟩
        rw [HI2.out.1] at hIt
        have hle : val W16 ts ≤ val W16 us := by rw [hIt.1, HIU.out.1]; have := HMD.out; omega
        have HLS := Away.mk (less_any v40 v57 us ts w8 (HS6.out.below hb8) hst HIU.out.2.1 hIt.2.1 (by omega) (by omega) hle)
        rw [hIt.1, HIU.out.1, show R - D * qd = R % D by have := HMD.out; omega] at HLS
        have HR8 := Away.mk (HR7.out.belowS hb8); have HB8 := Away.mk (HB7.out.trans (hb8.mono HB7.out.size))
        clear hIt htl hst hb8 hle HR7 HB7 HS6
        go_wp2_with fail
        refine HLS.out.mono ?_
        rintro _ w9 ⟨v58, rs', rfl, hI9, hl9, hs9, hb9⟩
        have HI9 := Away.mk hI9; have HS9 := Away.mk hs9; have HR9 := Away.mk (HR8.out.belowS hb9); have HB9 := Away.mk (HB8.out.trans (hb9.mono HB8.out.size))
        clear hI9 hl9 hs9 hb9 HLS HR8 HB8
        go_wp2
        go_roundw
        case rel =>
          refine ⟨j, rs', qs.set j qd, by omega, rfl, by rw [HD2.out]; exact HI9.out, HS9.out, by simp [hql], HQL.out.set _ _ hqd1, fun i hi => by rw [getD_set_other _ _ (by omega)]; exact HQZ.out i (by omega), ?_, HR9.out, HB9.out⟩
          rw [HQS2.out, drop_set_succ, HQV.out, HD1.out, HQD.out]
          congr 1
          rw [List.getD, List.getElem?_set_self (by omega)]; rfl
        case measure => simp [intOf]
      · have hc : decide (0 ≤ cmpI R D) = false := decide_eq_false (fun h => by
          have := cmpI_neg.2 (show R < D by omega)
          omega)
        have HGE := Away.mk hge
        generalize cmpI R D = cc at *
        clear HCM hge
        go_wp2
        go_roundw
        case rel =>
          have hlt : R < D := by have := HGE.out; omega
          refine ⟨j, us, qs, by omega, rfl, by rw [HD2.out, Nat.mod_eq_of_lt hlt]; exact HIU.out, HSU.out, hql, HQL.out, fun i hi => HQZ.out i (by omega), ?_, HR5.out, HB5.out⟩
          rw [HQS.out, HQZ.out j (by omega), HQV.out, HD1.out, Nat.div_eq_of_lt hlt]
        case measure => simp [intOf]
end Go.Proofs.YtdpahahfcdldcaaDoor
