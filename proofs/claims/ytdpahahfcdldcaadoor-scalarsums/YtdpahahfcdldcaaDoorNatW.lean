/-
  Contract of divWords, over this seat's translation. Conditions: at most 1000 words; the divisor has two words or more, the dividend no fewer.
-/
import Derived.Test.YtdpahahfcdldcaaDoorNatV
namespace Go.Proofs.YtdpahahfcdldcaaDoor
open Go.RowKit Go.Shelf
set_option linter.unusedVariables false
attribute [local go_sem] Oper.semAt_some

/-- What holds between two rounds: the words that are left, and the quotient's. -/
def LongI (M D gl gq b7 b11 b12 na nq : Nat) (vby : Value) (bs : List Nat) {n : Nat} {V : Nat → Nat → Prop} (pre : List (Al n V)) (W : World) : Prop :=
  ∃ ls qs : List Nat, Row W gl 55 (C .u32 ls) ∧ Row W gq 55 (C .u32 qs) ∧ ls.length = na + 1 ∧ qs.length = nq ∧ Lo W32 ls ∧ Lo W32 qs ∧ SlV W vby (C .u32 bs) ∧
    Boxed W b7 44 vby ∧ Boxed W b11 44 (.slice (some ⟨gl, 0, none⟩) (na + 1) (na + 1)) ∧ Boxed W b12 44 (.slice (some ⟨gq, 0, none⟩) nq nq) ∧
    (∀ k, k ≤ nq → places pre = desc nq k → M = val W32 (qs.drop (nq - k)) * W32 ^ (nq - k) * D + val W32 ls ∧ val W32 ls < W32 ^ (nq - k) * D)
theorem zeros_getD (n j : Nat) : (List.replicate n 0).getD j 0 = 0 := by
  by_cases h : j < n
  · simp [List.getD, h]
  · exact getD_past (by simp; omega)
/-- One word of the quotient more. -/
theorem long_step {ls ls' qs : List Nat} {M D na nb nq i q : Nat} (hls : ls.length = na + 1) (hlo : Lo W32 ls) (hqs : qs.length = nq) (hi : i < nq) (hnq : nq + nb = na + 1) (hD : D < W32 ^ nb) (hD0 : 0 < D)
    (h1 : M = val W32 (qs.drop (i + 1)) * W32 ^ (i + 1) * D + val W32 ls) (h2 : val W32 ls < W32 ^ (i + 1) * D)
    (hq : val W32 ((ls.drop i).take (nb + 1)) < D * W32 → q = val W32 ((ls.drop i).take (nb + 1)) / D ∧ val W32 ls' = val W32 ((ls.drop i).take (nb + 1)) % D) (hls' : ls'.length = nb + 1) :
    M = val W32 ((qs.set i q).drop i) * W32 ^ i * D + val W32 (ls.take i ++ (ls' ++ (ls.drop i).drop (nb + 1))) ∧ val W32 (ls.take i ++ (ls' ++ (ls.drop i).drop (nb + 1))) < W32 ^ i * D := by
  have hpi : 0 < W32 ^ i := Nat.pow_pos (by decide)
  have htl : (ls.take i).length = i := by rw [List.length_take]; omega
  have hwl : ((ls.drop i).take (nb + 1)).length = nb + 1 := by rw [List.length_take, List.length_drop]; omega
  have hpost : val W32 ((ls.drop i).drop (nb + 1)) = 0 := by
    rw [List.drop_drop, val_div (B := W32) (by decide) hlo, Nat.div_eq_of_lt]
    refine Nat.lt_trans h2 ?_
    rw [show W32 ^ (i + (nb + 1)) = W32 ^ (i + 1) * W32 ^ nb by rw [← Nat.pow_add]; congr 1; omega]
    exact Nat.mul_lt_mul_of_pos_left hD (Nat.pow_pos (show 0 < W32 by decide))
  have hval : val W32 ls = val W32 (ls.take i) + W32 ^ i * val W32 ((ls.drop i).take (nb + 1)) := by
    have e1 := val_take_drop (B := W32) ls i (by omega)
    have e2 := val_take_drop (B := W32) (ls.drop i) (nb + 1) (by rw [List.length_drop]; omega)
    rw [hpost, Nat.mul_zero, Nat.add_zero] at e2
    rw [e1, e2]
  have hval' : val W32 (ls.take i ++ (ls' ++ (ls.drop i).drop (nb + 1))) = val W32 (ls.take i) + W32 ^ i * val W32 ls' := by
    rw [val_append, val_append, hpost, Nat.mul_zero, Nat.add_zero, htl]
  have hpre := val_take_lt (B := W32) (by decide) hlo i
  have hwin : val W32 ((ls.drop i).take (nb + 1)) < D * W32 := by
    rw [hval, Nat.pow_succ] at h2
    have h3 : W32 ^ i * val W32 ((ls.drop i).take (nb + 1)) < W32 ^ i * (D * W32) := by
      have : W32 ^ i * W32 * D = W32 ^ i * (D * W32) := by rw [Nat.mul_assoc, Nat.mul_comm W32 D]
      omega
    exact Nat.lt_of_mul_lt_mul_left h3
  obtain ⟨hq1, hq2⟩ := hq hwin
  have hdm := Nat.div_add_mod (val W32 ((ls.drop i).take (nb + 1))) D
  have hmod := Nat.mod_lt (val W32 ((ls.drop i).take (nb + 1))) hD0
  have hqd : val W32 ((qs.set i q).drop i) = q + W32 * val W32 (qs.drop (i + 1)) := by
    have hlt : i < (qs.set i q).length := by rw [List.length_set]; omega
    rw [List.drop_eq_getElem_cons hlt, drop_set_succ]
    simp [val]
  rw [hval', hqd, h1, hval]
  rw [← hq1] at hdm
  rw [← hq2] at hdm hmod
  generalize val W32 ((ls.drop i).take (nb + 1)) = T at *
  generalize val W32 (qs.drop (i + 1)) = H at *
  generalize val W32 ls' = r at *
  generalize val W32 (ls.take i) = p at *
  rw [Nat.pow_succ] at *
  generalize W32 ^ i = P at *
  generalize W32 = B at *
  constructor
  · subst hdm
    clear h1 h2 hval hval' hpre hwin hq hq1 hq2 hpost hqd
    grind
  · have h4 : P * (r + 1) ≤ P * D := Nat.mul_le_mul_left _ hmod
    rw [Nat.mul_add, Nat.mul_one] at h4
    omega

theorem keeps_row {A B : World} {g : Nat} {e : TypeId} {us : List Value} (hg : A.grownBy B (some g)) (h : Row A g e us) : KeepsOthers A B :=
  KeepsOthers.of_grownBy hg fun j o ej hj => by
    obtain rfl : g = j := by simpa using ej
    rw [show A.heap[g]? = _ from h] at hj; cases hj; rfl
set_option maxRecDepth 100000 in
set_option maxHeartbeats 4000000 in
theorem divWords_any (va vb : Value) (xs ys : List Nat) (w : World) (ha : SlV w va (C .u32 xs)) (hb : SlV w vb (C .u32 ys)) (hI1 : Is W32 (val W32 xs) xs) (hI2 : Is W32 (val W32 ys) ys) (hna : xs.length ≤ 1000) (hnb2 : 2 ≤ ys.length) (hab : ys.length ≤ xs.length) :
    Calls Tryd.prog 53 #[va, vb] w fun e w' => ∃ v1 v2, e = .returned (.tuple #[v1, v2]) ∧ Ans w.heap.size w' v1 (val W32 xs / val W32 ys) ∧ Ans w.heap.size w' v2 (val W32 xs % val W32 ys) ∧ Below w.heap.size w w' := by
  obtain ⟨i0, hi, hz0, hz1, hz2⟩ := info_parts Tryd.info55
  obtain ⟨na, hn1⟩ : ∃ n, xs.length = n := ⟨_, rfl⟩
  obtain ⟨nb, hn2⟩ : ∃ n, ys.length = n := ⟨_, rfl⟩
  obtain ⟨a1, c1, rfl, q1, r1⟩ := ha.shapeC hn1
  obtain ⟨a2, c2, rfl, q2, r2⟩ := hb.shapeC hn2
  obtain ⟨b2, o2, rfl, hbl2, hcb⟩ := hb.cells (by rw [C_length]; omega)
  have hct := hcb (nb - 1) _ (C_get _ (by omega))
  have htb : ys.getD (nb - 1) 0 < 4294967296 := hI2.2.1.getD (by decide) _
  have ht0 : ys.getD (nb - 1) 0 ≠ 0 := by have := hI2.last (by decide) (by omega); rwa [hn2] at this
  have htop : bl (val W32 ys) = (nb - 1) * 32 + bl (ys.getD (nb - 1) 0) := bl_top hI2.2.1 ht0 (fun j hj => getD_past (by omega))
  have htop32 := (bl_le (ys.getD (nb - 1) 0) 32).2 (by omega)
  have htoppos := bl_pos ht0
  rw [hn1] at hna hab
  rw [hn2] at hnb2 hab
  generalize ys.getD (nb - 1) 0 = y at *
  have hlz := lz32_any y htb
  obtain ⟨s, hs⟩ : ∃ s, 32 - bl y = s := ⟨_, rfl⟩
  rw [hs] at hlz
  have hs31 : s ≤ 31 := by omega
  have hbits : bl (val W32 ys) + s = 32 * nb := by omega
  obtain ⟨D, hD⟩ : ∃ D, val W32 ys * 2 ^ s = D := ⟨_, rfl⟩
  obtain ⟨M, hM⟩ : ∃ M, val W32 xs * 2 ^ s = M := ⟨_, rfl⟩
  have h2s : 0 < 2 ^ s := Nat.pow_pos (by decide)
  have hDlt : D < W32 ^ nb := by
    rw [pow32, ← hbits, Nat.pow_add, ← hD]
    exact Nat.mul_lt_mul_of_pos_right (bl_lt _) h2s
  have hyge : W32 ^ (nb - 1) ≤ val W32 ys := by have := hI2.2.2 (by omega); rwa [hn2] at this
  have hDge : W32 ^ (nb - 1) ≤ D := by rw [← hD]; exact Nat.le_trans hyge (Nat.le_mul_of_pos_right _ h2s)
  have hxlt : val W32 xs < W32 ^ na := hI1.val_lt (by decide) (by omega)
  have hMlt : M < W32 ^ (na - nb + 1) * D := by
    rw [← hM, ← hD, ← Nat.mul_assoc]
    refine Nat.mul_lt_mul_of_pos_right ?_ h2s
    refine Nat.lt_of_lt_of_le hxlt ?_
    rw [show na = (na - nb + 1) + (nb - 1) by omega, Nat.pow_add, show na - nb + 1 + (nb - 1) - nb + 1 = na - nb + 1 by omega]
    exact Nat.mul_le_mul_left _ hyge
  have hMlen : M < W32 ^ (na + 1) := by
    rw [← hM, Nat.pow_succ]
    exact Nat.mul_lt_mul'' hxlt (Nat.lt_of_le_of_lt (Nat.pow_le_pow_right (by decide) hs31) (by decide))
  have HA := Away.mk ha; have HB := Away.mk hb; have HI1 := Away.mk hI1; have HI2 := Away.mk hI2; have HD := Away.mk hD; have HM := Away.mk hM; have HDL := Away.mk hDlt; have HDG := Away.mk hDge; have HML := Away.mk hMlt; have HMN := Away.mk hMlen; have HLZ := Away.mk hlz; have H2S := Away.mk h2s
  have e1 : (nb : Int) - 1 = ((nb - 1 : Nat) : Int) := by omega
  have hnb1 : nb - 1 < nb := by omega
  clear ha hb hI1 hI2 hD hM hDlt hDge hMlt hMlen hlz h2s hyge hxlt hbits htop htop32 htoppos hs hcb
  refine (callsIn_wide (n := 3)).1 ?_
  refine callsIn_of_wp_marks Tryd.func53 rfl trivial ?_ rfl
  refine wpIn_wide.2 ?_
  simp only [Tryd.ntmps53, List.size_toArray, List.length_cons, List.length_nil, Nat.reduceAdd, Nat.reduceSub, Array.replicate_succ, Array.replicate_zero, List.push_toArray, List.append_toArray, List.nil_append, List.cons_append]
  go_wp2_with fail
  refine (HLZ.out w).mono ?_
  rintro _ w0 ⟨rfl, rfl⟩
  go_wp2_with fail
  refine (shl_any _ ys s w HB.out HI2.out.2.1 (by omega) (by omega)).mono ?_
  rw [HD.out]
  rintro _ w1 ⟨vby, rfl, ⟨bs, hIb, hsb, hrb⟩, hb1⟩
  have hbl : bs.length = nb := by
    have h1 := (hIb.len (by decide) nb).2 HDL.out
    have h2 : ¬ bs.length ≤ nb - 1 := fun h => by have := (hIb.len (by decide) (nb - 1)).1 h; have := HDG.out; omega
    omega
  obtain ⟨gb, rest, hvby, hgb1, hrowb⟩ := hrb (by omega)
  have hgb2 := hrowb.lt
  rw [hbl] at hvby
  have HSB := Away.mk hsb; have HIB := Away.mk hIb; have HB1 := Away.mk hb1; have HA1 := Away.mk (HA.out.below hb1)
  subst hvby
  clear hsb hIb hb1 hrb hrowb
  go_wp2_with fail
  have hbx1 : Below w1.heap.size w1 (w1.alloc (.cells #[.slice (some ⟨gb, 0, none⟩) nb nb] 44)) := (Below.refl _ _).alloc (Nat.le_refl _) _
  refine (shl_any _ xs s _ (HA1.out.below hbx1) HI1.out.2.1 (by omega) (by omega)).mono ?_
  rw [HM.out]
  rintro _ w2 ⟨vhi, rfl, ⟨hs', hIh, hsh, _⟩, hb2⟩
  obtain ⟨nh, hnh⟩ : ∃ n, hs'.length = n := ⟨_, rfl⟩
  obtain ⟨ah, ch, rfl, q3, r3⟩ := hsh.shapeC hnh
  have hnhle : nh ≤ na + 1 := by rw [← hnh]; exact (hIh.len (by decide) _).2 HMN.out
  have hbx2 : Below w1.heap.size w1 w2 := hbx1.trans (hb2.mono (by simp))
  have b7 : Boxed w2 w1.heap.size 44 (.slice (some ⟨gb, 0, none⟩) nb nb) := (Boxed.new w1 44 _).kept (grown_of_below hb2 none) (by simp)
  have hw02 : Below w.heap.size w w2 := HB1.out.trans (hbx2.mono HB1.out.size)
  have hsz2 : w1.heap.size < w2.heap.size := b7.lt
  have HSH := Away.mk hsh; have HIH := Away.mk hIh; have HB7 := Away.mk b7; have HW2 := Away.mk hw02; have HSB2 := Away.mk (HSB.out.below hbx2)
  clear hsh hIh b7 hw02 hb2 hbx2 hbx1 HSB HA1
  go_wp2_with (at_make; refine wpList_make_full _ rfl _ _ 44 rfl w.heap.size 55 i0 _ 1 Tryd.underlying44 hi hz0 hz1 _ _ _ _ (na + 1) rfl rfl (by omega) (by omega) (by rw [hz2]; omega) (by unfold maxLen; omega) HW2.out.size ?_)
  intro w3 hown hg3
  have HO := Away.mk (own_made hown); have HG3 := Away.mk hg3
  have hgl3 := (Row.ofOwn (own_made hown)).lt
  clear hown hg3
  go_wp2_with (refine wpList_copy_full rfl (.tmp 38) (.tmp 39) 44 rfl 55 Tryd.underlying44 Tryd.size55 w.heap.size (na + 1) (na + 1) nh w2.heap.size _ (C .u32 hs') _ _ rfl rfl (by rw [C_length]; exact hnh.symm) (HO.out.alloc _) ((HSH.out.grown HG3.out (by simp)).below ((Below.refl _ _).alloc (Nat.le_refl _) _)) (by rw [C_length]; omega) (C_one _ _) ?_)
  intro w4 hown4 hg4 hsz4
  have hr4 := Row.ofOwn hown4
  rw [C_length, hnh, ← C_zeros, ← C_append] at hr4
  have b11 : Boxed w4 w3.heap.size 44 (.slice (some ⟨w2.heap.size, 0, none⟩) (na + 1) (na + 1)) := (Boxed.new w3 44 _).kept hg4 (by simp; omega)
  have hB24 : Below w2.heap.size w2 w4 := (((Below.refl _ w2).grown HG3.out (Nat.le_refl _) (by simp)).alloc HG3.out.size _).grown hg4 (by have := HG3.out.size; simp; omega) (by simp)
  have hs34 : w3.heap.size < w4.heap.size := b11.lt
  have HR4 := Away.mk hr4; have H11 := Away.mk b11; have HB24 := Away.mk hB24
  clear hsz4 hown4 hg4 hr4 b11 hB24 HO HG3
  have e3 : (na : Int) - nb + 1 = ((na - nb + 1 : Nat) : Int) := by omega
  obtain ⟨nq, hnq⟩ : ∃ nq, na - nb + 1 = nq := ⟨_, rfl⟩
  rw [hnq] at e3 HML
  have hnq1 : nq + nb = na + 1 := by omega
  have hnq2 : 0 < nq := by omega
  clear hnq
  go_wp2_with (at_make; refine wpList_make_full _ rfl _ _ 44 rfl w.heap.size 55 i0 _ 1 Tryd.underlying44 hi hz0 hz1 _ _ _ _ nq rfl rfl (by omega) (by omega) (by rw [hz2]; omega) (by unfold maxLen; omega) (Nat.le_trans HW2.out.size HB24.out.size) ?_)
  intro w5 hown5 hg5
  have hr5 := Row.ofOwn (own_made hown5)
  rw [← C_zeros] at hr5
  have hgq5 := hr5.lt
  have hB45 : Below w4.heap.size w4 w5 := (Below.refl _ w4).grown hg5 (Nat.le_refl _) (by simp)
  have HR5 := Away.mk hr5; have HB45 := Away.mk hB45
  clear hown5 hg5 hr5 hB45
  go_wp2_with fail
  refine (down_any _ _ _ _).mono ?_
  rintro _ w' ⟨rfl, rfl⟩
  go_wp2
  obtain ⟨w6, hw6⟩ : ∃ w6, w5.alloc (.cells #[.slice (some ⟨w4.heap.size, 0, none⟩) nq nq] 44) = w6 := ⟨_, rfl⟩
  rw [hw6]
  obtain ⟨gl, hgl⟩ : ∃ g, w2.heap.size = g := ⟨_, rfl⟩
  obtain ⟨gq, hgq⟩ : ∃ g, w4.heap.size = g := ⟨_, rfl⟩
  obtain ⟨b7, hb7⟩ : ∃ g, w1.heap.size = g := ⟨_, rfl⟩
  obtain ⟨b11, hb11⟩ : ∃ g, w3.heap.size = g := ⟨_, rfl⟩
  obtain ⟨b12, hb12⟩ : ∃ g, w5.heap.size = g := ⟨_, rfl⟩
  have hB56 : Below w5.heap.size w5 w6 := by rw [← hw6]; exact (Below.refl _ _).alloc (Nat.le_refl _) _
  have hB46 : Below w4.heap.size w4 w6 := HB45.out.trans (hB56.mono HB45.out.size)
  have hB26 : Below w2.heap.size w2 w6 := HB24.out.trans (hB46.mono HB24.out.size)
  have hB06 : Below w.heap.size w w6 := HW2.out.trans (hB26.mono HW2.out.size)
  have hsz6 : w6.heap.size = b12 + 1 := by rw [← hw6, ← hb12]; simp
  have x12 : Boxed w6 b12 44 (.slice (some ⟨gq, 0, none⟩) nq nq) := by rw [← hw6, ← hb12, ← hgq]; exact Boxed.new _ _ _
  have x11 : Boxed w6 b11 44 (.slice (some ⟨gl, 0, none⟩) (na + 1) (na + 1)) := by rw [← hb11, ← hgl]; exact H11.out.kept (grown_of_below hB46 none) (by simp)
  have x7 : Boxed w6 b7 44 (.slice (some ⟨gb, 0, none⟩) nb nb) := by rw [← hb7]; exact HB7.out.kept (grown_of_below hB26 none) (by simp)
  have xl := HR4.out.belowS hB46
  have xq := HR5.out.belowS hB56
  have xb := HSB2.out.below hB26
  have s1 : w.heap.size ≤ gb := hgb1
  have s2 : gb < b7 := by omega
  have s3 : b7 < gl := by omega
  have s4 : gl < b11 := by omega
  have s5 : b11 < gq := by omega
  have s6 : gq < b12 := by omega
  rw [hgl] at xl
  rw [hgq] at xq
  obtain ⟨ls0, hls0⟩ : ∃ l, hs' ++ List.replicate (na + 1 - nh) 0 = l := ⟨_, rfl⟩
  rw [hls0] at xl
  have hl0 : ls0.length = na + 1 := by rw [← hls0]; simp; omega
  have hl1 : Lo W32 ls0 := by rw [← hls0]; exact HIH.out.2.1.append (Lo.zeros (by decide) _)
  have hl2 : val W32 ls0 = M := by rw [← hls0, val_append, val_zeros, HIH.out.1]; omega
  have hD0 : 0 < D := Nat.lt_of_lt_of_le (Nat.pow_pos (by decide)) HDG.out
  have hbF : bs.getD (nb - 1) 0 ≠ 0 := by have := HIB.out.last (by decide) (by omega); rwa [hbl] at this
  have HS0 : ∀ W (qs : List Nat), W.cell? ⟨b12 + 1, 0, none⟩ = some (.slice (some ⟨gq, 0, none⟩) nq nq) → Row W gq 55 (C .u32 qs) → qs.length = nq → Lo W32 qs → Seen (fun _ _ => True) (b12 + 1) (some ⟨gq, 0, none⟩) nq nq W := fun W qs h1 h2 h3 h4 => ⟨h1, fun j hj => ⟨gq, 0, qs.getD j 0, rfl, h4.getD (by decide) j, trivial, by rw [Nat.zero_add, h2.cell]; exact C_get _ (by omega)⟩⟩
  rw [hgl, hgq, hb7, hb11, hb12]
  rw [hw6] at *
  have xb7 : Boxed (w6.alloc (.cells #[.slice (some ⟨gq, 0, none⟩) nq nq] 44)) (b12 + 1) 44 (.slice (some ⟨gq, 0, none⟩) nq nq) := by have := Boxed.new w6 44 (.slice (some ⟨gq, 0, none⟩) nq nq); rwa [hsz6] at this
  have hB67 : Below w6.heap.size w6 (w6.alloc (.cells #[.slice (some ⟨gq, 0, none⟩) nq nq] 44)) := (Below.refl _ _).alloc (Nat.le_refl _) _
  clear hw6 HR4 HR5 H11 HB7 HB24 HB45 HW2 HSB2 hB56 hB46 hB26 hgl hgq hb7 hb11 hb12 hgl3 hgq5 hsz2 HSH HIH hls0
  refine range_down w (b12 + 1) nq nq (some ⟨gq, 0, none⟩) (fun _ _ => True) (by unfold maxLen; omega) rfl rfl (hB06.alloc (by omega) _)
    (fun W hW => HS0 W _ ((hW.cell (p := ⟨b12 + 1, 0, none⟩) xb7.lt).trans xb7.cell) ((xq.belowS hB67).belowS hW) (by simp) (Lo.zeros (by decide) _))
    (fun pre W => LongI M D gl gq b7 b11 b12 na nq (.slice (some ⟨gb, 0, none⟩) nb nb) bs pre W) (fun _ _ => False)
    (fun st A B row hst hg hr => by
      obtain ⟨ls, qs, p1, p2, p3, p4, p5, p6, p7, p8, p9, p10, p11⟩ := hst
      exact ⟨ls, qs, Row.turn p1 hg hr, Row.turn p2 hg hr, p3, p4, p5, p6, p7.turn hg hr, Boxed.turn p8 hg hr, Boxed.turn p9 hg hr, Boxed.turn p10 hg hr, p11⟩)
    (fun _ _ _ _ hs _ _ => hs)
    ⟨ls0, _, xl.belowS hB67, xq.belowS hB67, hl0, by simp, hl1, Lo.zeros (by decide) _, xb.below hB67, x7.alloc _, x11.alloc _, x12.alloc _, fun k hk hp => ?start⟩
    (fun i z => { tmps := #[.slice a1 na c1, .slice (some ⟨b2, o2, none⟩) nb c2, undef, undef, .slice none 0 0, .slice none 0 0, .int .i64 s, .pointer (some ⟨b7, 0, none⟩), .int .i64 0, .slice ah nh ch, .int .i64 0, .pointer (some ⟨b11, 0, none⟩), .pointer (some ⟨b12, 0, none⟩), .int .i64 (i : Int), undef, ?t15, ?t16, ?t17, ?t18, ?t19, ?t20, ?t21, ?t22, ?t23, ?t24, ?t25, ?t26, ?t27, ?t28, ?t29, ?t30, ?t31, ?t32, ?t33, ?t34, ?t35, ?t36, ?t37, ?t38, ?t39, ?t40, ?t41, ?t42, ?t43, ?t44, ?t45, ?t46, ?t47, ?t48, .func (.func 70) #[] #[.pointer (some ⟨b12 + 1, 0, none⟩)], .int .i64 (i : Int), .int .u32 (z : Int), undef, undef, undef, undef, undef, undef, undef, undef, undef, undef, undef, undef, undef, undef, undef, undef, undef, undef, undef, undef], defers := [] }) ?assign ?body ?done ?stop
  case start =>
    obtain rfl : k = 0 := by have := congrArg List.length hp; simp [places, desc_length] at this; omega
    rw [Nat.sub_zero, hl2]
    refine ⟨?_, HML.out⟩
    rw [val_drop_zero (fun j hj => zeros_getD _ _)]
    omega
  case assign =>
    intro l i z W K hK
    gi_wp2
    exact hK
  case body =>
    rintro l pre x i z W R HX hii hz HV ⟨ls, qs, p1, p2, p3, p4, p5, p6, p7, p8, p9, p10, p11⟩ hB HN' HR'
    have p8 : Boxed W b7 44 _ := p8
    have p9 : Boxed W b11 44 _ := p9
    have p10 : Boxed W b12 44 _ := p10
    have c7 := p8.cell; have c11 := p9.cell; have c12 := p10.cell
    have e4 : i + nb + 1 ≤ na + 1 := by omega
    have htl : (ls.take i).length = i := by rw [List.length_take]; omega
    have hml : ((ls.drop i).take (nb + 1)).length = nb + 1 := by rw [List.length_take, List.length_drop]; omega
    have hsplit : ls.take i ++ ((ls.drop i).take (nb + 1) ++ (ls.drop i).drop (nb + 1)) = ls := by rw [List.take_append_drop, List.take_append_drop]
    have hwnd : Wnd W.drew gl i (ls.take i) ((ls.drop i).take (nb + 1)) ((ls.drop i).drop (nb + 1)) := ⟨by rw [hsplit]; exact p1, htl⟩
    have HTM := Away.mk (takeMost_any gl i (nb + 1) nb (.slice (some ⟨gb, 0, none⟩) nb nb) _ _ _ bs W.drew hwnd hml hbl hnb2 (by omega) ((p5.drop i).take _) HIB.out.2.1 hbF (Nat.le_refl _) (by unfold maxLen; omega) p7 (fun b e => by simp only [Value.ownBlock, Option.some.injEq] at e; omega))
    have HSPL := Away.mk hsplit
    have hend : i + nb + 1 - i = nb + 1 := by omega
    have hne : i ≠ na + 1 := by omega
    clear hwnd hsplit
    gi_wp2
    refine region_round (S := fun w' => w'.cell? ⟨b12, 0, none⟩ = some (.slice (some ⟨gq, 0, none⟩) nq nq) ∧ w'.cell? ⟨b11, 0, none⟩ = some (.slice (some ⟨gl, 0, none⟩) (na + 1) (na + 1)) ∧ w'.cell? ⟨b7, 0, none⟩ = some (.slice (some ⟨gb, 0, none⟩) nb nb)) (by kernel_rfl) (by kernel_rfl) (⟨c12, c11, c7⟩) (fun hHeld => ?_)
    refine wpAnyH_takeL (i := 0) (v := ?v0) rfl (by kernel_rfl) (by kernel_rfl) (by kernel_rfl) (fun _ _ _ h => h) (by rfl) ?h0 (by assumption) ?_
    case h0 => intro w hSw; go_simp <;> with_reducible rfl
    simp only [Act.put, List.setIfInBounds_toArray, List.set_cons_zero, List.set_cons_succ]
    refine wpAnyH_takeL (i := 1) (v := ?v1) rfl (by kernel_rfl) (by kernel_rfl) (by kernel_rfl) (fun _ _ _ h => h) (by rfl) ?h1 (by assumption) ?_
    case h1 => intro w hSw; go_simp <;> with_reducible rfl
    simp only [Act.put, List.setIfInBounds_toArray, List.set_cons_zero, List.set_cons_succ]
    refine wpAnyH_takeL (i := 2) (v := ?v2) rfl (by kernel_rfl) (by kernel_rfl) (by kernel_rfl) (fun _ _ _ h => h) (by rfl) ?h2 (by assumption) ?_
    case h2 => intro w hSw; go_simp <;> with_reducible rfl
    simp only [Act.put, List.setIfInBounds_toArray, List.set_cons_zero, List.set_cons_succ]
    refine wpAnyH_takeL (i := 3) (v := ?v3) rfl (by kernel_rfl) (by kernel_rfl) (by kernel_rfl) (fun _ _ _ h => h) (by rfl) ?h3 (by assumption) ?_
    case h3 => intro w hSw; go_simp <;> with_reducible rfl
    simp only [Act.put, List.setIfInBounds_toArray, List.set_cons_zero, List.set_cons_succ]
    refine wpAnyH_takeL (i := 4) (v := ?v4) rfl (by kernel_rfl) (by kernel_rfl) (by kernel_rfl) (fun _ _ _ h => h) (by rfl) ?h4 (by assumption) ?_
    case h4 => intro w hSw; go_simp <;> with_reducible rfl
    simp only [Act.put, List.setIfInBounds_toArray, List.set_cons_zero, List.set_cons_succ]
    refine wpAnyH_takeL (i := 5) (v := ?v5) rfl (by kernel_rfl) (by kernel_rfl) (by kernel_rfl) (fun _ _ _ h => h) (by rfl) ?h5 (by assumption) ?_
    case h5 => intro w hSw; go_simp <;> with_reducible rfl
    simp only [Act.put, List.setIfInBounds_toArray, List.set_cons_zero, List.set_cons_succ]
    refine wpAnyH_takeL (i := 6) (v := ?v6) rfl (by kernel_rfl) (by kernel_rfl) (by kernel_rfl) (fun _ _ _ h => h) (by rfl) ?h6 (by assumption) ?_
    case h6 => intro w hSw; go_simp; rw [if_pos (by omega), if_pos (by omega), if_pos (by omega), if_neg (by omega), show ((i : Int) + (nb : Int) + 1).toNat - i = nb + 1 by omega]
    simp only [Act.put, List.setIfInBounds_toArray, List.set_cons_zero, List.set_cons_succ]
    refine wpAnyH_takeL (i := 7) (v := ?v7) rfl (by kernel_rfl) (by kernel_rfl) (by kernel_rfl) (fun _ _ _ h => h) (by rfl) ?h7 (by assumption) ?_
    case h7 => intro w hSw; go_simp <;> with_reducible rfl
    simp only [Act.put, List.setIfInBounds_toArray, List.set_cons_zero, List.set_cons_succ]
    refine allReadyH_oneL (i := 8) (by kernel_rfl) rfl (by rfl) (fun K hK => ?_)
    go_simp
    refine HTM.out.mono ?_
    rintro _ w1 ⟨q, ls', rfl, hq32, hwnd1, hls', hlo1, hqc, hg1⟩
    have hg1 : W.grownBy w1 (some gl) := ⟨hg1.os, hg1.tape, hg1.output, hg1.size, hg1.block⟩
    have z8 := p8.kept hg1 (by simp; omega)
    have z9 := p9.kept hg1 (by simp; omega)
    have z10 := p10.kept hg1 (by simp; omega)
    have hq1 := p2.grown hg1 (by simp; omega)
    have hco := (hq1.cell i).trans (C_get _ (by omega))
    have hfo := hq1.frozen i
    refine hK.out _ _ (⟨z10.cell, z9.cell, z8.cell⟩) (fun hHeld => ?_)
    clear hK K
    refine wpAnyH_takeL (i := 9) (v := ?v9) rfl (by kernel_rfl) (by kernel_rfl) (by kernel_rfl) (fun _ _ _ h => h) (by rfl) ?h9 (by assumption) ?_
    case h9 => intro w hSw; go_simp <;> with_reducible rfl
    simp only [Act.put, List.setIfInBounds_toArray, List.set_cons_zero, List.set_cons_succ]
    refine allReadyH_oneL (i := 10) (by kernel_rfl) rfl (by rfl) (fun K hK => ?_)
    go_simp
    refine hK.out _ _ (⟨(((Boxed.row z10).other _ (by omega)).cell 0), (((Boxed.row z9).other _ (by omega)).cell 0), (((Boxed.row z8).other _ (by omega)).cell 0)⟩) (fun hHeld => ?_)
    clear hK K
    refine wpAnyH_done (by kernel_rfl) ?_ _
    refine Nrm.normal ?_
    have hgw : w1.grownBy (w1.setCell ⟨gq, i, none⟩ (.int .u32 (q : Int))) (some gq) := grown_set _ _ _ _
    obtain ⟨W2, hW2⟩ : ∃ W2, w1.setCell ⟨gq, i, none⟩ (.int .u32 (q : Int)) = W2 := ⟨_, rfl⟩
    rw [hW2] at hgw ⊢
    have y1 : Row W2 gl 55 (C .u32 (ls.take i ++ (ls' ++ (ls.drop i).drop (nb + 1)))) := hwnd1.1.grown hgw (by simp; omega)
    have y2 : Row W2 gq 55 (C .u32 (qs.set i q)) := by rw [← hW2, C_set]; exact hq1.set i _
    have y7 : SlV W2 (.slice (some ⟨gb, 0, none⟩) nb nb) (C .u32 bs) := (p7.grown hg1 (fun b e h => by simp only [Value.ownBlock, Option.some.injEq] at e h; omega)).grown hgw (fun b e h => by simp only [Value.ownBlock, Option.some.injEq] at e h; omega)
    have y8 := z8.kept hgw (by simp; omega)
    have y9 := z9.kept hgw (by simp; omega)
    have y10 := z10.kept hgw (by simp; omega)
    have hko : KeepsOthers W W2 := (keeps_row hg1 p1).trans (by rw [← hW2]; exact KeepsOthers.setCell _ _ _)
    have hBW : Below w.heap.size w W2 := (hB.grown hg1 hB.size (fun k e => by cases e; omega)).grown hgw (Nat.le_trans hB.size hg1.size) (fun k e => by cases e; omega)
    have hbs : ∀ u, W.cell? ⟨b12 + 1, 0, none⟩ = some u → W2.cell? ⟨b12 + 1, 0, none⟩ = some u := fun u hu => by
      have hlt : b12 + 1 < W.heap.size := World.block_lt_of_cell? W _ hu
      have e1 : w1.heap[b12 + 1]? = W.heap[b12 + 1]? := hg1.block _ hlt (by simp; omega)
      have e2 : W2.heap[b12 + 1]? = w1.heap[b12 + 1]? := hgw.block _ (Nat.lt_of_lt_of_le hlt hg1.size) (by simp; omega)
      rw [World.cell?_of_block (a := ⟨b12 + 1, 0, none⟩) (e2.trans e1)]; exact hu
    have hl' : (ls.take i ++ (ls' ++ (ls.drop i).drop (nb + 1))).length = na + 1 := by simp only [List.length_append, htl, hls', List.length_drop]; omega
    have hlo' : Lo W32 (ls.take i ++ (ls' ++ (ls.drop i).drop (nb + 1))) := (p5.take i).append (hlo1.append ((p5.drop i).drop _))
    have hend2 : R .normal { tmps := #[], defers := [] } W2 → R .normal { tmps := #[], defers := [] } W2 := fun h => h
    have HFIN := Away.mk (fun a' => HN'.out a' W2 hko (fun hse => HS0 W2 (qs.set i q) (hbs _ hse.1) y2 (by simp [p4]) (p6.set _ _ hq32)) ⟨_, _, y1, y2, hl', by simp [p4], hlo', p6.set _ _ hq32, y7, y8, y9, y10, fun k hk hp => ?step⟩ hBW)
    case step =>
      obtain ⟨k', rfl, hp', hi'⟩ := last_place hp
      rw [HX.out.1] at hi'
      obtain ⟨m1, m2⟩ := p11 k' (by omega) hp'
      rw [show nq - k' = i + 1 by omega] at m1 m2
      rw [show nq - (k' + 1) = i by omega]
      have hq' := hqc
      rw [HIB.out.1] at hq'
      exact long_step p3 p5 p4 hii hnq1 HDL.out hD0 m1 m2 hq' hls'
    clear hW2 hgw y1 y2 y7 y8 y9 y10 hko hBW hbs hl' hlo'
    gi_wp2
    exact HFIN.out _
  case done =>
    rintro D' qs' W hDD hp ⟨ls, qs, p1, p2, p3, p4, p5, p6, p7, p8, p9, p10, p11⟩ hB hK
    have p9 : Boxed W b11 44 _ := p9
    have p10 : Boxed W b12 44 _ := p10
    have c11 := p9.cell; have c12 := p10.cell
    obtain ⟨m1, m2⟩ := p11 nq (Nat.le_refl _) hp
    rw [Nat.sub_self, Nat.pow_zero, Nat.mul_one, List.drop_zero] at m1
    rw [Nat.sub_self, Nat.pow_zero, Nat.one_mul] at m2
    have hy0 : 0 < val W32 ys := by
      rcases Nat.eq_zero_or_pos (val W32 ys) with h | h
      · have := HD.out; rw [h, Nat.zero_mul] at this; omega
      · exact h
    have hq1 : val W32 qs = val W32 xs / val W32 ys := by
      have h1 : val W32 qs = M / D := by rw [m1, Nat.mul_comm, Nat.mul_add_div hD0, Nat.div_eq_of_lt m2, Nat.add_zero]
      rw [h1, ← HM.out, ← HD.out, Nat.mul_div_mul_right _ _ H2S.out]
    have hr1 : val W32 ls / 2 ^ s = val W32 xs % val W32 ys := by
      have h1 : val W32 ls = M % D := by rw [m1, Nat.mul_comm, Nat.mul_add_mod, Nat.mod_eq_of_lt m2]
      rw [h1, ← HM.out, ← HD.out, Nat.mul_mod_mul_right, Nat.mul_div_cancel _ H2S.out]
    have hlsW : ∀ W', Below W.heap.size W W' → SlV W' (.slice (some ⟨gl, 0, none⟩) (na + 1) (na + 1)) (C .u32 ls) := fun W' h => by
      have := (p1.belowS h).slAll (by rw [C_length, p3]; unfold maxLen; omega)
      rwa [C_length, p3] at this
    have HT := Away.mk (fun W' (h : Below W.heap.size W W') => trimmed_new w.heap.size gq _ W' (p2.belowS h) (by omega) p6 (by omega))
    rw [hq1, p4] at HT
    have HSR := Away.mk (fun W' (h : Below W.heap.size W W') => shr_any _ ls (s : Int) W' (hlsW W' h) p5 (by omega) (by omega))
    simp only [Int.toNat_natCast, hr1] at HSR
    have HK := Away.mk hK; have HBW := Away.mk hB
    have hB6 : ∀ W', Below W.heap.size W W' → W'.cell? ⟨b12, 0, none⟩ = some (.slice (some ⟨gq, 0, none⟩) nq nq) ∧ W'.cell? ⟨b11, 0, none⟩ = some (.slice (some ⟨gl, 0, none⟩) (na + 1) (na + 1)) := fun W' h => ⟨(h.cell (p := ⟨b12, 0, none⟩) p10.lt).trans c12, (h.cell (p := ⟨b11, 0, none⟩) p9.lt).trans c11⟩
    have HB6 := Away.mk hB6
    clear p1 p2 p5 p6 p7 p8 p9 p10 p11 m1 m2 hq1 hr1 hlsW hp hK hB6 xb xl xq x7 x11 x12 xb7 hB67
    go_wp2
    refine wp_region_noPanic ?_
    refine wp_region_held_drew (S := fun w' => w'.cell? ⟨b12, 0, none⟩ = some (.slice (some ⟨gq, 0, none⟩) nq nq) ∧ w'.cell? ⟨b11, 0, none⟩ = some (.slice (some ⟨gl, 0, none⟩) (na + 1) (na + 1))) (by kernel_rfl) (⟨c12, c11⟩) (fun hHeld => ?_)
    refine wpAnyH_takeL (i := 0) (v := ?v0b) rfl (by kernel_rfl) (by kernel_rfl) (by kernel_rfl) (fun _ _ _ h => h) (by rfl) ?h0b (by assumption) ?_
    case h0b => intro w hSw; go_simp <;> with_reducible rfl
    simp only [Act.put, List.setIfInBounds_toArray, List.set_cons_zero, List.set_cons_succ]
    refine wpAnyH_takeL (i := 2) (v := ?v2b) rfl (by kernel_rfl) (by kernel_rfl) (by kernel_rfl) (fun _ _ _ h => h) (by rfl) ?h2b (by assumption) ?_
    case h2b => intro w hSw; go_simp <;> with_reducible rfl
    simp only [Act.put, List.setIfInBounds_toArray, List.set_cons_zero, List.set_cons_succ]
    refine wpAnyH_takeL (i := 3) (v := ?v3b) rfl (by kernel_rfl) (by kernel_rfl) (by kernel_rfl) (fun _ _ _ h => h) (by rfl) ?h3b (by assumption) ?_
    case h3b => intro w hSw; go_simp <;> with_reducible rfl
    simp only [Act.put, List.setIfInBounds_toArray, List.set_cons_zero, List.set_cons_succ]
    refine allReadyH_oneL (i := 1) (by kernel_rfl) rfl (by rfl) (fun K hK => ?_)
    go_simp
    refine (HT.out _ (Below.refl _ W).drew).mono ?_
    rintro _ w5' ⟨v1, rfl, hans1, hb5⟩
    have hb5 : Below W.heap.size W w5' := ⟨hb5.os, hb5.tape, hb5.output, hb5.size, hb5.block⟩
    refine hK.out _ _ (HB6.out _ hb5) (fun hHeld => ?_)
    clear hK K
    refine allReadyH_oneL (i := 4) (by kernel_rfl) rfl (by rfl) (fun K hK => ?_)
    go_simp
    refine (HSR.out _ hb5).mono ?_
    rintro _ w6' ⟨v2, rfl, hans2, hb6⟩
    have hb6' : Below W.heap.size W w6' := hb5.trans (hb6.mono hb5.size)
    refine hK.out _ _ (HB6.out _ hb6') (fun hHeld => ?_)
    clear hK K
    refine wpAnyH_takeL (i := 5) (v := ?v5b) rfl (by kernel_rfl) (by kernel_rfl) (by kernel_rfl) (fun _ _ _ h => h) (by rfl) ?h5b (by assumption) ?_
    case h5b => intro w hSw; go_simp <;> with_reducible rfl
    simp only [Act.put, List.setIfInBounds_toArray, List.set_cons_zero, List.set_cons_succ]
    refine wpAnyH_takeL (i := 6) (v := ?v6b) rfl (by kernel_rfl) (by kernel_rfl) (by kernel_rfl) (fun _ _ _ h => h) (by rfl) ?h6b (by assumption) ?_
    case h6b => intro w hSw; go_simp <;> with_reducible rfl
    simp only [Act.put, List.setIfInBounds_toArray, List.set_cons_zero, List.set_cons_succ]
    refine wpAnyH_done (by kernel_rfl) ?_ _
    refine NoPanic.normal ?_
    have hans1 := hans1.below (B' := 0) hb6
    have hans2 := hans2.base (Nat.le_trans HBW.out.size hb5.size)
    have hD' : D' < W.heap.size := (Array.getElem?_eq_some_iff.1 HK.out).1
    have hK' : w6'.heap[D']? = some (.deferred (some [])) := (hb6'.block D' hD').trans HK.out
    have hB6 : Below w.heap.size w w6' := HBW.out.trans (hb6'.mono HBW.out.size)
    go_wp2
    refine ⟨by simp, .inl ⟨_, _, rfl, run_takeDeferred hK', ?_⟩⟩
    have hturn : ∀ r, some D' = some r → ∃ o : Obj, w6'.heap[r]? = some o ∧ o.isCells = false := fun r e => by cases e; exact ⟨_, hK', rfl⟩
    refine ⟨.tuple #[v1, v2], ?_, v1, v2, rfl, hans1.turn (grownBy_putObj' _ D' (.deferred none)) hturn, hans2.turn (grownBy_putObj' _ D' (.deferred none)) hturn, below_shut (w := w) hB6 (by have := hB06.size; simp at hDD; omega) hK'⟩
    simp [results, Tryd.f53, go_sem]
  case stop =>
    rintro D k pre W hD hk hp hx
    exact hx.elim
end Go.Proofs.YtdpahahfcdldcaaDoor
