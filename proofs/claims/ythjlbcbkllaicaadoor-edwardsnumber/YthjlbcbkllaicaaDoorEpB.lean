/-
  The program's sum of scaled points; over this seat's translation. Conditions: each as it says.
-/
import Derived.Test.YthjlbcbkllaicaaDoorEpA
import Derived.Test.YthjlbcbkllaicaaDoorKit15
namespace Go.Proofs.YthjlbcbkllaicaaDoor.F
open Go.RowKit
set_option linter.unusedVariables false
set_option maxRecDepth 10000

open E (z z_val z_same z_add z_mul z_sub z_inv z_mod z_of dd Pt padd pneg pmul iv ax ay Sc)
set_option maxHeartbeats 8000000 in
theorem eplus_any (A B M N D E G H : Nat) (lA : A < 115792089237316195423570985008687907853269984665640564039457584007913129639936) (lB : B < 115792089237316195423570985008687907853269984665640564039457584007913129639936) (lM : M < 115792089237316195423570985008687907853269984665640564039457584007913129639936) (lN : N < 115792089237316195423570985008687907853269984665640564039457584007913129639936) (lD : D < 115792089237316195423570985008687907853269984665640564039457584007913129639936) (lE : E < 115792089237316195423570985008687907853269984665640564039457584007913129639936) (lG : G < 115792089237316195423570985008687907853269984665640564039457584007913129639936) (lH : H < 115792089237316195423570985008687907853269984665640564039457584007913129639936) (p q : Pt) (h1 : Sc p (z A) (z B) (z M) (z N)) (h3 : Sc q (z D) (z E) (z G) (z H)) (w : World) (hE : TE w) : Calls Tryd.prog 49 #[.agg (sc A B M N).toArray, .agg (sc D E G H).toArray] w fun e w' => (∃ X Y U K, e = .returned (.agg (sc X Y U K).toArray) ∧ X < 115792089237316195423570985008687907853269984665640564039457584007913129639936 ∧ Y < 115792089237316195423570985008687907853269984665640564039457584007913129639936 ∧ U < 115792089237316195423570985008687907853269984665640564039457584007913129639936 ∧ K < 115792089237316195423570985008687907853269984665640564039457584007913129639936 ∧ Sc (padd p q) (z X) (z Y) (z U) (z K)) ∧ Below w.heap.size w w' := by
  obtain ⟨w2, h2, h⟩ := Fr.three w 52 52 52 (sc A B M N) (sc D E G H) (sc 0 0 0 0)
  have hP := hE.p
  obtain ⟨n1, en1, ln1, cn1⟩ : ∃ n, (B % P + (P - A % P)) % P = n ∧ n < 115792089237316195423570985008687907853269984665640564039457584007913129639936 ∧ ∀ (w : World), Tab w → Calls Tryd.prog 32 #[.agg (ec B).toArray, .agg (ec A).toArray] w fun e w' => e = .returned (.agg (ec n).toArray) ∧ Below w.heap.size w w' := ⟨_, rfl, mod_lt_T _, fun w hT => fsub_el B A lB lA w hT⟩
  replace en1 := Away.mk en1
  obtain ⟨n2, en2, ln2, cn2⟩ : ∃ n, (E % P + (P - D % P)) % P = n ∧ n < 115792089237316195423570985008687907853269984665640564039457584007913129639936 ∧ ∀ (w : World), Tab w → Calls Tryd.prog 32 #[.agg (ec E).toArray, .agg (ec D).toArray] w fun e w' => e = .returned (.agg (ec n).toArray) ∧ Below w.heap.size w w' := ⟨_, rfl, mod_lt_T _, fun w hT => fsub_el E D lE lD w hT⟩
  replace en2 := Away.mk en2
  obtain ⟨n3, en3, ln3, cn3⟩ : ∃ n, n1 * n2 % P = n ∧ n < 115792089237316195423570985008687907853269984665640564039457584007913129639936 ∧ ∀ (w : World), Tab w → Calls Tryd.prog 33 #[.agg (ec n1).toArray, .agg (ec n2).toArray] w fun e w' => e = .returned (.agg (ec n).toArray) ∧ Below w.heap.size w w' := ⟨_, rfl, mod_lt_T _, fun w hT => fmul_el n1 n2 ln1 ln2 w hT⟩
  replace en3 := Away.mk en3
  obtain ⟨n4, en4, ln4, cn4⟩ : ∃ n, (B + A) % P = n ∧ n < 115792089237316195423570985008687907853269984665640564039457584007913129639936 ∧ ∀ (w : World), Tab w → Calls Tryd.prog 35 #[.agg (ec B).toArray, .agg (ec A).toArray] w fun e w' => e = .returned (.agg (ec n).toArray) ∧ Below w.heap.size w w' := ⟨_, rfl, mod_lt_T _, fun w hT => fadd_el B A lB lA w hT⟩
  replace en4 := Away.mk en4
  obtain ⟨n5, en5, ln5, cn5⟩ : ∃ n, (E + D) % P = n ∧ n < 115792089237316195423570985008687907853269984665640564039457584007913129639936 ∧ ∀ (w : World), Tab w → Calls Tryd.prog 35 #[.agg (ec E).toArray, .agg (ec D).toArray] w fun e w' => e = .returned (.agg (ec n).toArray) ∧ Below w.heap.size w w' := ⟨_, rfl, mod_lt_T _, fun w hT => fadd_el E D lE lD w hT⟩
  replace en5 := Away.mk en5
  obtain ⟨n6, en6, ln6, cn6⟩ : ∃ n, n4 * n5 % P = n ∧ n < 115792089237316195423570985008687907853269984665640564039457584007913129639936 ∧ ∀ (w : World), Tab w → Calls Tryd.prog 33 #[.agg (ec n4).toArray, .agg (ec n5).toArray] w fun e w' => e = .returned (.agg (ec n).toArray) ∧ Below w.heap.size w w' := ⟨_, rfl, mod_lt_T _, fun w hT => fmul_el n4 n5 ln4 ln5 w hT⟩
  replace en6 := Away.mk en6
  obtain ⟨n7, en7, ln7, cn7⟩ : ∃ n, (n6 % P + (P - n3 % P)) % P = n ∧ n < 115792089237316195423570985008687907853269984665640564039457584007913129639936 ∧ ∀ (w : World), Tab w → Calls Tryd.prog 32 #[.agg (ec n6).toArray, .agg (ec n3).toArray] w fun e w' => e = .returned (.agg (ec n).toArray) ∧ Below w.heap.size w w' := ⟨_, rfl, mod_lt_T _, fun w hT => fsub_el n6 n3 ln6 ln3 w hT⟩
  replace en7 := Away.mk en7
  obtain ⟨n8, en8, ln8, cn8⟩ : ∃ n, (n6 + n3) % P = n ∧ n < 115792089237316195423570985008687907853269984665640564039457584007913129639936 ∧ ∀ (w : World), Tab w → Calls Tryd.prog 35 #[.agg (ec n6).toArray, .agg (ec n3).toArray] w fun e w' => e = .returned (.agg (ec n).toArray) ∧ Below w.heap.size w w' := ⟨_, rfl, mod_lt_T _, fun w hT => fadd_el n6 n3 ln6 ln3 w hT⟩
  replace en8 := Away.mk en8
  obtain ⟨n9, en9, ln9, cn9⟩ : ∃ n, N * H % P = n ∧ n < 115792089237316195423570985008687907853269984665640564039457584007913129639936 ∧ ∀ (w : World), Tab w → Calls Tryd.prog 33 #[.agg (ec N).toArray, .agg (ec H).toArray] w fun e w' => e = .returned (.agg (ec n).toArray) ∧ Below w.heap.size w w' := ⟨_, rfl, mod_lt_T _, fun w hT => fmul_el N H lN lH w hT⟩
  replace en9 := Away.mk en9
  obtain ⟨n10, en10, ln10, cn10⟩ : ∃ n, (n9 + n9) % P = n ∧ n < 115792089237316195423570985008687907853269984665640564039457584007913129639936 ∧ ∀ (w : World), Tab w → Calls Tryd.prog 69 #[.agg (ec n9).toArray] w fun e w' => e = .returned (.agg (ec n).toArray) ∧ Below w.heap.size w w' := ⟨_, rfl, mod_lt_T _, fun w hT => twice_el n9 ln9 w hT⟩
  replace en10 := Away.mk en10
  obtain ⟨n11, en11, ln11, cn11⟩ : ∃ n, M * G % P = n ∧ n < 115792089237316195423570985008687907853269984665640564039457584007913129639936 ∧ ∀ (w : World), Tab w → Calls Tryd.prog 33 #[.agg (ec M).toArray, .agg (ec G).toArray] w fun e w' => e = .returned (.agg (ec n).toArray) ∧ Below w.heap.size w w' := ⟨_, rfl, mod_lt_T _, fun w hT => fmul_el M G lM lG w hT⟩
  replace en11 := Away.mk en11
  obtain ⟨n12, en12, ln12, cn12⟩ : ∃ n, Dn * n11 % P = n ∧ n < 115792089237316195423570985008687907853269984665640564039457584007913129639936 ∧ ∀ (w : World), Tab w → Calls Tryd.prog 33 #[.agg (ec Dn).toArray, .agg (ec n11).toArray] w fun e w' => e = .returned (.agg (ec n).toArray) ∧ Below w.heap.size w w' := ⟨_, rfl, mod_lt_T _, fun w hT => fmul_el Dn n11 lDn ln11 w hT⟩
  replace en12 := Away.mk en12
  obtain ⟨n13, en13, ln13, cn13⟩ : ∃ n, (n12 + n12) % P = n ∧ n < 115792089237316195423570985008687907853269984665640564039457584007913129639936 ∧ ∀ (w : World), Tab w → Calls Tryd.prog 69 #[.agg (ec n12).toArray] w fun e w' => e = .returned (.agg (ec n).toArray) ∧ Below w.heap.size w w' := ⟨_, rfl, mod_lt_T _, fun w hT => twice_el n12 ln12 w hT⟩
  replace en13 := Away.mk en13
  obtain ⟨n14, en14, ln14, cn14⟩ : ∃ n, (n10 + n13) % P = n ∧ n < 115792089237316195423570985008687907853269984665640564039457584007913129639936 ∧ ∀ (w : World), Tab w → Calls Tryd.prog 35 #[.agg (ec n10).toArray, .agg (ec n13).toArray] w fun e w' => e = .returned (.agg (ec n).toArray) ∧ Below w.heap.size w w' := ⟨_, rfl, mod_lt_T _, fun w hT => fadd_el n10 n13 ln10 ln13 w hT⟩
  replace en14 := Away.mk en14
  obtain ⟨n15, en15, ln15, cn15⟩ : ∃ n, (n10 % P + (P - n13 % P)) % P = n ∧ n < 115792089237316195423570985008687907853269984665640564039457584007913129639936 ∧ ∀ (w : World), Tab w → Calls Tryd.prog 32 #[.agg (ec n10).toArray, .agg (ec n13).toArray] w fun e w' => e = .returned (.agg (ec n).toArray) ∧ Below w.heap.size w w' := ⟨_, rfl, mod_lt_T _, fun w hT => fsub_el n10 n13 ln10 ln13 w hT⟩
  replace en15 := Away.mk en15
  obtain ⟨n16, en16, ln16, cn16⟩ : ∃ n, n7 * n15 % P = n ∧ n < 115792089237316195423570985008687907853269984665640564039457584007913129639936 ∧ ∀ (w : World), Tab w → Calls Tryd.prog 33 #[.agg (ec n7).toArray, .agg (ec n15).toArray] w fun e w' => e = .returned (.agg (ec n).toArray) ∧ Below w.heap.size w w' := ⟨_, rfl, mod_lt_T _, fun w hT => fmul_el n7 n15 ln7 ln15 w hT⟩
  replace en16 := Away.mk en16
  obtain ⟨n17, en17, ln17, cn17⟩ : ∃ n, n8 * n14 % P = n ∧ n < 115792089237316195423570985008687907853269984665640564039457584007913129639936 ∧ ∀ (w : World), Tab w → Calls Tryd.prog 33 #[.agg (ec n8).toArray, .agg (ec n14).toArray] w fun e w' => e = .returned (.agg (ec n).toArray) ∧ Below w.heap.size w w' := ⟨_, rfl, mod_lt_T _, fun w hT => fmul_el n8 n14 ln8 ln14 w hT⟩
  replace en17 := Away.mk en17
  obtain ⟨n18, en18, ln18, cn18⟩ : ∃ n, n7 * n8 % P = n ∧ n < 115792089237316195423570985008687907853269984665640564039457584007913129639936 ∧ ∀ (w : World), Tab w → Calls Tryd.prog 33 #[.agg (ec n7).toArray, .agg (ec n8).toArray] w fun e w' => e = .returned (.agg (ec n).toArray) ∧ Below w.heap.size w w' := ⟨_, rfl, mod_lt_T _, fun w hT => fmul_el n7 n8 ln7 ln8 w hT⟩
  replace en18 := Away.mk en18
  obtain ⟨n19, en19, ln19, cn19⟩ : ∃ n, n14 * n15 % P = n ∧ n < 115792089237316195423570985008687907853269984665640564039457584007913129639936 ∧ ∀ (w : World), Tab w → Calls Tryd.prog 33 #[.agg (ec n14).toArray, .agg (ec n15).toArray] w fun e w' => e = .returned (.agg (ec n).toArray) ∧ Below w.heap.size w w' := ⟨_, rfl, mod_lt_T _, fun w hT => fmul_el n14 n15 ln14 ln15 w hT⟩
  replace en19 := Away.mk en19
  have HV : Away (Sc (padd p q) (z n16) (z n17) (z n18) (z n19)) := ⟨by
    have qn1 : z n1 = z B - z A := by rw [← en1.out, z_sub]
    have qn2 : z n2 = z E - z D := by rw [← en2.out, z_sub]
    have qn3 : z n3 = z n1 * z n2 := by rw [← en3.out, z_mul]
    have qn4 : z n4 = z B + z A := by rw [← en4.out, z_add]
    have qn5 : z n5 = z E + z D := by rw [← en5.out, z_add]
    have qn6 : z n6 = z n4 * z n5 := by rw [← en6.out, z_mul]
    have qn7 : z n7 = z n6 - z n3 := by rw [← en7.out, z_sub]
    have qn8 : z n8 = z n6 + z n3 := by rw [← en8.out, z_add]
    have qn9 : z n9 = z N * z H := by rw [← en9.out, z_mul]
    have qn10 : z n10 = z n9 + z n9 := by rw [← en10.out, z_add]
    have qn11 : z n11 = z M * z G := by rw [← en11.out, z_mul]
    have qn12 : z n12 = z Dn * z n11 := by rw [← en12.out, z_mul]
    have qn13 : z n13 = z n12 + z n12 := by rw [← en13.out, z_add]
    have qn14 : z n14 = z n10 + z n13 := by rw [← en14.out, z_add]
    have qn15 : z n15 = z n10 - z n13 := by rw [← en15.out, z_sub]
    have qn16 : z n16 = z n7 * z n15 := by rw [← en16.out, z_mul]
    have qn17 : z n17 = z n8 * z n14 := by rw [← en17.out, z_mul]
    have qn18 : z n18 = z n7 * z n8 := by rw [← en18.out, z_mul]
    have qn19 : z n19 = z n14 * z n15 := by rw [← en19.out, z_mul]
    have k := h1.add h3 (D := z n3) (S := z n6) (o := z n10) (u := z n13) (by rw [qn3, qn1, qn2]) (by rw [qn6, qn4, qn5]) (by rw [qn10, qn9]) (by rw [qn13, qn12, qn11, z_D])
    rw [qn16, qn17, qn18, qn19, qn7, qn8, qn14, qn15]
    exact k⟩
  clear h1 h3
  go_enter Tryd.func49, Tryd.ntmps49
  go_upto_region 1 with (refine wpList_alloc_row rfl 52 rfl _ zSw ?_)
  try simp only [Act.put, List.setIfInBounds_toArray, List.set_cons_zero, List.set_cons_succ, alloc_size, h2]
  clear h2
  replace h := h.drew
  refine wp_region_inv (by kernel_rfl) (fun a0 l b w' => ∃ (l0 l1 l2 l3 l4 l5 l6 l7 l8 l9 l10 l11 l12 : Bool) (g5 : Nat) , l = #[l0, l1, l2, l3, l4, l5, l6, l7, l8, l9, l10, l11, l12] ∧ b = putsA a0 [(13, l0, .pointer (some ⟨w.heap.size, 4, none⟩), undef), (14, l1, .agg (ec B).toArray, undef), (15, l2, .pointer (some ⟨w.heap.size, 0, none⟩), undef), (16, l3, .agg (ec A).toArray, undef), (17, l4, .agg (ec n1).toArray, undef), (18, l5, .pointer (some ⟨(w.heap.size + 1), 4, none⟩), undef), (19, l6, .agg (ec E).toArray, undef), (20, l7, .pointer (some ⟨(w.heap.size + 1), 0, none⟩), undef), (21, l8, .agg (ec D).toArray, undef), (22, l9, .agg (ec n2).toArray, undef), (23, l10, .agg (ec n3).toArray, undef), (5, l11, .pointer (some ⟨g5, 0, none⟩), undef)] ∧ Fr w w' (opt [(true, (w.heap.size, 52, sc A B M N)), (true, ((w.heap.size + 1), 52, sc D E G H)), (true, ((w.heap.size + 1 + 1), 52, sc 0 0 0 0)), (l11, (g5, 24, bif l12 then ec n3 else ec 0))]) ∧ (l12 = true → l11 = true)) ?start ?step ?rest
  case start => exact ⟨false, false, false, false, false, false, false, false, false, false, false, false, false, 0, by kernel_rfl, by kernel_rfl, h, (fun e => by cases e)⟩
  case step =>
    clear h
    intro l b w' hI i hi
    obtain ⟨l0, l1, l2, l3, l4, l5, l6, l7, l8, l9, l10, l11, l12, g5, rfl, rfl, h, hc12⟩ := hI
    have hlt : i < 13 := ready_lt hi
    obtain rfl | rfl | rfl | rfl | rfl | rfl | rfl | rfl | rfl | rfl | rfl | rfl | rfl := (by omega : i = 0 ∨ i = 1 ∨ i = 2 ∨ i = 3 ∨ i = 4 ∨ i = 5 ∨ i = 6 ∨ i = 7 ∨ i = 8 ∨ i = 9 ∨ i = 10 ∨ i = 11 ∨ i = 12)
    · have hn : l0 = false := ready_not hi
      clear hi hlt
      subst hn
      refine wpOp_inv rfl rfl (fun K hK => ?_)
      simp only [putsA, Act.put, List.setIfInBounds_toArray, List.set_cons_zero, List.set_cons_succ, cond_false] at h ⊢
      refine wp_value (.pointer (some ⟨w.heap.size, 4, none⟩)) (by go_simp) ?_
      exact hK.out _ _ ⟨true, l1, l2, l3, l4, l5, l6, l7, l8, l9, l10, l11, l12, g5, by kernel_rfl, by kernel_rfl, h, (by first | exact hc12 | exact fun _ => rfl | exact fun e => (by cases e))⟩
    · have hn : l1 = false := ready_not hi
      have hd0 : l0 = true := ready_dep hi rfl (k := 0) rfl rfl
      clear hi hlt
      subst hn hd0
      refine wpOp_inv rfl rfl (fun K hK => ?_)
      simp only [putsA, Act.put, List.setIfInBounds_toArray, List.set_cons_zero, List.set_cons_succ, cond_true, cond_false] at h ⊢
      refine wp_value (.agg (ec B).toArray) (exec_load_at 24 _ rfl rfl (sc_1 (h.rowo (k := 0) rfl)) rfl Tryd.underlying24 (ie4 _)) ?_
      exact hK.out _ _ ⟨true, true, l2, l3, l4, l5, l6, l7, l8, l9, l10, l11, l12, g5, by kernel_rfl, by kernel_rfl, h, (by first | exact hc12 | exact fun _ => rfl | exact fun e => (by cases e))⟩
    · have hn : l2 = false := ready_not hi
      clear hi hlt
      subst hn
      refine wpOp_inv rfl rfl (fun K hK => ?_)
      simp only [putsA, Act.put, List.setIfInBounds_toArray, List.set_cons_zero, List.set_cons_succ, cond_false] at h ⊢
      refine wp_value (.pointer (some ⟨w.heap.size, 0, none⟩)) (by go_simp) ?_
      exact hK.out _ _ ⟨l0, l1, true, l3, l4, l5, l6, l7, l8, l9, l10, l11, l12, g5, by kernel_rfl, by kernel_rfl, h, (by first | exact hc12 | exact fun _ => rfl | exact fun e => (by cases e))⟩
    · have hn : l3 = false := ready_not hi
      have hd2 : l2 = true := ready_dep hi rfl (k := 0) rfl rfl
      clear hi hlt
      subst hn hd2
      refine wpOp_inv rfl rfl (fun K hK => ?_)
      simp only [putsA, Act.put, List.setIfInBounds_toArray, List.set_cons_zero, List.set_cons_succ, cond_true, cond_false] at h ⊢
      refine wp_value (.agg (ec A).toArray) (exec_load_at 24 _ rfl rfl (sc_0 (h.rowo (k := 0) rfl)) rfl Tryd.underlying24 (ie4 _)) ?_
      exact hK.out _ _ ⟨l0, l1, true, true, l4, l5, l6, l7, l8, l9, l10, l11, l12, g5, by kernel_rfl, by kernel_rfl, h, (by first | exact hc12 | exact fun _ => rfl | exact fun e => (by cases e))⟩
    · have hn : l4 = false := ready_not hi
      have hd1 : l1 = true := ready_dep hi rfl (k := 0) rfl rfl
      have hd3 : l3 = true := ready_dep hi rfl (k := 1) rfl rfl
      clear hi hlt
      subst hn hd1 hd3
      refine wpOp_inv rfl rfl (fun K hK => ?_)
      simp only [putsA, Act.put, List.setIfInBounds_toArray, List.set_cons_zero, List.set_cons_succ, cond_true, cond_false] at h ⊢
      go_simp
      refine (cn1 _ (hP.below h.bel)).mono ?_
      rintro _ wn ⟨rfl, hb⟩
      replace h := h.below hb
      clear hb
      exact hK.out _ _ ⟨l0, true, l2, true, true, l5, l6, l7, l8, l9, l10, l11, l12, g5, by kernel_rfl, by kernel_rfl, h, (by first | exact hc12 | exact fun _ => rfl | exact fun e => (by cases e))⟩
    · have hn : l5 = false := ready_not hi
      clear hi hlt
      subst hn
      refine wpOp_inv rfl rfl (fun K hK => ?_)
      simp only [putsA, Act.put, List.setIfInBounds_toArray, List.set_cons_zero, List.set_cons_succ, cond_false] at h ⊢
      refine wp_value (.pointer (some ⟨(w.heap.size + 1), 4, none⟩)) (by go_simp) ?_
      exact hK.out _ _ ⟨l0, l1, l2, l3, l4, true, l6, l7, l8, l9, l10, l11, l12, g5, by kernel_rfl, by kernel_rfl, h, (by first | exact hc12 | exact fun _ => rfl | exact fun e => (by cases e))⟩
    · have hn : l6 = false := ready_not hi
      have hd5 : l5 = true := ready_dep hi rfl (k := 0) rfl rfl
      clear hi hlt
      subst hn hd5
      refine wpOp_inv rfl rfl (fun K hK => ?_)
      simp only [putsA, Act.put, List.setIfInBounds_toArray, List.set_cons_zero, List.set_cons_succ, cond_true, cond_false] at h ⊢
      refine wp_value (.agg (ec E).toArray) (exec_load_at 24 _ rfl rfl (sc_1 (h.rowo (k := 1) rfl)) rfl Tryd.underlying24 (ie4 _)) ?_
      exact hK.out _ _ ⟨l0, l1, l2, l3, l4, true, true, l7, l8, l9, l10, l11, l12, g5, by kernel_rfl, by kernel_rfl, h, (by first | exact hc12 | exact fun _ => rfl | exact fun e => (by cases e))⟩
    · have hn : l7 = false := ready_not hi
      clear hi hlt
      subst hn
      refine wpOp_inv rfl rfl (fun K hK => ?_)
      simp only [putsA, Act.put, List.setIfInBounds_toArray, List.set_cons_zero, List.set_cons_succ, cond_false] at h ⊢
      refine wp_value (.pointer (some ⟨(w.heap.size + 1), 0, none⟩)) (by go_simp) ?_
      exact hK.out _ _ ⟨l0, l1, l2, l3, l4, l5, l6, true, l8, l9, l10, l11, l12, g5, by kernel_rfl, by kernel_rfl, h, (by first | exact hc12 | exact fun _ => rfl | exact fun e => (by cases e))⟩
    · have hn : l8 = false := ready_not hi
      have hd7 : l7 = true := ready_dep hi rfl (k := 0) rfl rfl
      clear hi hlt
      subst hn hd7
      refine wpOp_inv rfl rfl (fun K hK => ?_)
      simp only [putsA, Act.put, List.setIfInBounds_toArray, List.set_cons_zero, List.set_cons_succ, cond_true, cond_false] at h ⊢
      refine wp_value (.agg (ec D).toArray) (exec_load_at 24 _ rfl rfl (sc_0 (h.rowo (k := 1) rfl)) rfl Tryd.underlying24 (ie4 _)) ?_
      exact hK.out _ _ ⟨l0, l1, l2, l3, l4, l5, l6, true, true, l9, l10, l11, l12, g5, by kernel_rfl, by kernel_rfl, h, (by first | exact hc12 | exact fun _ => rfl | exact fun e => (by cases e))⟩
    · have hn : l9 = false := ready_not hi
      have hd6 : l6 = true := ready_dep hi rfl (k := 0) rfl rfl
      have hd8 : l8 = true := ready_dep hi rfl (k := 1) rfl rfl
      have hd4 : l4 = true := ready_dep hi rfl (k := 2) rfl rfl
      clear hi hlt
      subst hn hd6 hd8 hd4
      refine wpOp_inv rfl rfl (fun K hK => ?_)
      simp only [putsA, Act.put, List.setIfInBounds_toArray, List.set_cons_zero, List.set_cons_succ, cond_true, cond_false] at h ⊢
      go_simp
      refine (cn2 _ (hP.below h.bel)).mono ?_
      rintro _ wn ⟨rfl, hb⟩
      replace h := h.below hb
      clear hb
      exact hK.out _ _ ⟨l0, l1, l2, l3, true, l5, true, l7, true, true, l10, l11, l12, g5, by kernel_rfl, by kernel_rfl, h, (by first | exact hc12 | exact fun _ => rfl | exact fun e => (by cases e))⟩
    · have hn : l10 = false := ready_not hi
      have hd4 : l4 = true := ready_dep hi rfl (k := 0) rfl rfl
      have hd9 : l9 = true := ready_dep hi rfl (k := 1) rfl rfl
      clear hi hlt
      subst hn hd4 hd9
      refine wpOp_inv rfl rfl (fun K hK => ?_)
      simp only [putsA, Act.put, List.setIfInBounds_toArray, List.set_cons_zero, List.set_cons_succ, cond_true, cond_false] at h ⊢
      go_simp
      refine (cn3 _ (hP.below h.bel)).mono ?_
      rintro _ wn ⟨rfl, hb⟩
      replace h := h.below hb
      clear hb
      exact hK.out _ _ ⟨l0, l1, l2, l3, true, l5, l6, l7, l8, true, true, l11, l12, g5, by kernel_rfl, by kernel_rfl, h, (by first | exact hc12 | exact fun _ => rfl | exact fun e => (by cases e))⟩
    · have hn : l11 = false := ready_not hi
      clear hi hlt
      subst hn
      obtain rfl : l12 = false := by cases l12 with | false => rfl | true => exact absurd (hc12 rfl) (by decide)
      refine wpOp_inv rfl rfl (fun K hK => ?_)
      simp only [putsA, Act.put, List.setIfInBounds_toArray, List.set_cons_zero, List.set_cons_succ, cond_false] at h ⊢
      refine wp_alloc_R 24 rfl (ec 0) z4w ?_
      obtain ⟨gn, hgq, hq⟩ := h.on (k := 3) rfl 24 (ec 0)
      rw [hgq]
      exact hK.out _ _ ⟨l0, l1, l2, l3, l4, l5, l6, l7, l8, l9, l10, true, false, gn, by kernel_rfl, by kernel_rfl, hq, (by first | exact hc12 | exact fun _ => rfl | exact fun e => (by cases e))⟩
    · have hn : l12 = false := ready_not hi
      have hd11 : l11 = true := ready_dep hi rfl (k := 0) rfl rfl
      have hd10 : l10 = true := ready_dep hi rfl (k := 1) rfl rfl
      have hd0 : l0 = true := ready_dep hi rfl (k := 3) rfl rfl
      have hd1 : l1 = true := ready_dep hi rfl (k := 4) rfl rfl
      have hd2 : l2 = true := ready_dep hi rfl (k := 5) rfl rfl
      have hd3 : l3 = true := ready_dep hi rfl (k := 6) rfl rfl
      have hd4 : l4 = true := ready_dep hi rfl (k := 7) rfl rfl
      have hd5 : l5 = true := ready_dep hi rfl (k := 8) rfl rfl
      have hd6 : l6 = true := ready_dep hi rfl (k := 9) rfl rfl
      have hd7 : l7 = true := ready_dep hi rfl (k := 10) rfl rfl
      have hd8 : l8 = true := ready_dep hi rfl (k := 11) rfl rfl
      have hd9 : l9 = true := ready_dep hi rfl (k := 12) rfl rfl
      clear hi hlt
      subst hn hd11 hd10 hd0 hd1 hd2 hd3 hd4 hd5 hd6 hd7 hd8 hd9
      refine wpOp_inv rfl rfl (fun K hK => ?_)
      simp only [putsA, Act.put, List.setIfInBounds_toArray, List.set_cons_zero, List.set_cons_succ, cond_true, cond_false] at h ⊢
      refine wp_store_R 24 _ _ rfl _ (ec n3) rfl rfl (h.rowo (k := 3) rfl) (ie4 _) rfl (ec_all _) ?_
      intro wz q hg hz
      replace h := h.puto (k := 3) rfl q hg
      exact hK.out _ _ ⟨true, true, true, true, true, true, true, true, true, true, true, true, true, g5, by kernel_rfl, by kernel_rfl, h, (by first | exact hc12 | exact fun _ => rfl | exact fun e => (by cases e))⟩
  case rest =>
    clear h
    intro l b w' hI hr
    obtain ⟨l0, l1, l2, l3, l4, l5, l6, l7, l8, l9, l10, l11, l12, g5, rfl, rfl, h, hc12⟩ := hI
    have hd : l0 = true := ready_nil (i := 0) hr rfl (by rfl)
    subst hd
    have hd : l1 = true := ready_nil (i := 1) hr rfl (by rfl)
    subst hd
    have hd : l2 = true := ready_nil (i := 2) hr rfl (by rfl)
    subst hd
    have hd : l3 = true := ready_nil (i := 3) hr rfl (by rfl)
    subst hd
    have hd : l4 = true := ready_nil (i := 4) hr rfl (by rfl)
    subst hd
    have hd : l5 = true := ready_nil (i := 5) hr rfl (by rfl)
    subst hd
    have hd : l6 = true := ready_nil (i := 6) hr rfl (by rfl)
    subst hd
    have hd : l7 = true := ready_nil (i := 7) hr rfl (by rfl)
    subst hd
    have hd : l8 = true := ready_nil (i := 8) hr rfl (by rfl)
    subst hd
    have hd : l9 = true := ready_nil (i := 9) hr rfl (by rfl)
    subst hd
    have hd : l10 = true := ready_nil (i := 10) hr rfl (by rfl)
    subst hd
    have hd : l11 = true := ready_nil (i := 11) hr rfl (by rfl)
    subst hd
    have hd : l12 = true := ready_nil (i := 12) hr rfl (by rfl)
    subst hd
    clear hr hc12
    simp only [putsA, Act.put, List.setIfInBounds_toArray, List.set_cons_zero, List.set_cons_succ, cond_true]
    replace h : Fr w w' [(w.heap.size, 52, sc A B M N), ((w.heap.size + 1), 52, sc D E G H), ((w.heap.size + 1 + 1), 52, sc 0 0 0 0), (g5, 24, ec n3)] := h
    go_upto_region 2 with fail
    try simp only [Act.put, List.setIfInBounds_toArray, List.set_cons_zero, List.set_cons_succ]
    replace h := h.drew
    refine wp_region_inv (by kernel_rfl) (fun a0 l b w' => ∃ (l0 l1 l2 l3 l4 l5 l6 l7 l8 l9 l10 l11 l12 : Bool) (g6 : Nat) , l = #[l0, l1, l2, l3, l4, l5, l6, l7, l8, l9, l10, l11, l12] ∧ b = putsA a0 [(24, l0, .pointer (some ⟨w.heap.size, 4, none⟩), undef), (25, l1, .agg (ec B).toArray, undef), (26, l2, .pointer (some ⟨w.heap.size, 0, none⟩), undef), (27, l3, .agg (ec A).toArray, undef), (28, l4, .agg (ec n4).toArray, undef), (29, l5, .pointer (some ⟨(w.heap.size + 1), 4, none⟩), undef), (30, l6, .agg (ec E).toArray, undef), (31, l7, .pointer (some ⟨(w.heap.size + 1), 0, none⟩), undef), (32, l8, .agg (ec D).toArray, undef), (33, l9, .agg (ec n5).toArray, undef), (34, l10, .agg (ec n6).toArray, undef), (6, l11, .pointer (some ⟨g6, 0, none⟩), undef)] ∧ Fr w w' (opt [(true, (w.heap.size, 52, sc A B M N)), (true, ((w.heap.size + 1), 52, sc D E G H)), (true, ((w.heap.size + 1 + 1), 52, sc 0 0 0 0)), (true, (g5, 24, ec n3)), (l11, (g6, 24, bif l12 then ec n6 else ec 0))]) ∧ (l12 = true → l11 = true)) ?start ?step ?rest
    case start => exact ⟨false, false, false, false, false, false, false, false, false, false, false, false, false, 0, by kernel_rfl, by kernel_rfl, h, (fun e => by cases e)⟩
    case step =>
      clear h
      intro l b w' hI i hi
      obtain ⟨l0, l1, l2, l3, l4, l5, l6, l7, l8, l9, l10, l11, l12, g6, rfl, rfl, h, hc12⟩ := hI
      have hlt : i < 13 := ready_lt hi
      obtain rfl | rfl | rfl | rfl | rfl | rfl | rfl | rfl | rfl | rfl | rfl | rfl | rfl := (by omega : i = 0 ∨ i = 1 ∨ i = 2 ∨ i = 3 ∨ i = 4 ∨ i = 5 ∨ i = 6 ∨ i = 7 ∨ i = 8 ∨ i = 9 ∨ i = 10 ∨ i = 11 ∨ i = 12)
      · have hn : l0 = false := ready_not hi
        clear hi hlt
        subst hn
        refine wpOp_inv rfl rfl (fun K hK => ?_)
        simp only [putsA, Act.put, List.setIfInBounds_toArray, List.set_cons_zero, List.set_cons_succ, cond_false] at h ⊢
        refine wp_value (.pointer (some ⟨w.heap.size, 4, none⟩)) (by go_simp) ?_
        exact hK.out _ _ ⟨true, l1, l2, l3, l4, l5, l6, l7, l8, l9, l10, l11, l12, g6, by kernel_rfl, by kernel_rfl, h, (by first | exact hc12 | exact fun _ => rfl | exact fun e => (by cases e))⟩
      · have hn : l1 = false := ready_not hi
        have hd0 : l0 = true := ready_dep hi rfl (k := 0) rfl rfl
        clear hi hlt
        subst hn hd0
        refine wpOp_inv rfl rfl (fun K hK => ?_)
        simp only [putsA, Act.put, List.setIfInBounds_toArray, List.set_cons_zero, List.set_cons_succ, cond_true, cond_false] at h ⊢
        refine wp_value (.agg (ec B).toArray) (exec_load_at 24 _ rfl rfl (sc_1 (h.rowo (k := 0) rfl)) rfl Tryd.underlying24 (ie4 _)) ?_
        exact hK.out _ _ ⟨true, true, l2, l3, l4, l5, l6, l7, l8, l9, l10, l11, l12, g6, by kernel_rfl, by kernel_rfl, h, (by first | exact hc12 | exact fun _ => rfl | exact fun e => (by cases e))⟩
      · have hn : l2 = false := ready_not hi
        clear hi hlt
        subst hn
        refine wpOp_inv rfl rfl (fun K hK => ?_)
        simp only [putsA, Act.put, List.setIfInBounds_toArray, List.set_cons_zero, List.set_cons_succ, cond_false] at h ⊢
        refine wp_value (.pointer (some ⟨w.heap.size, 0, none⟩)) (by go_simp) ?_
        exact hK.out _ _ ⟨l0, l1, true, l3, l4, l5, l6, l7, l8, l9, l10, l11, l12, g6, by kernel_rfl, by kernel_rfl, h, (by first | exact hc12 | exact fun _ => rfl | exact fun e => (by cases e))⟩
      · have hn : l3 = false := ready_not hi
        have hd2 : l2 = true := ready_dep hi rfl (k := 0) rfl rfl
        clear hi hlt
        subst hn hd2
        refine wpOp_inv rfl rfl (fun K hK => ?_)
        simp only [putsA, Act.put, List.setIfInBounds_toArray, List.set_cons_zero, List.set_cons_succ, cond_true, cond_false] at h ⊢
        refine wp_value (.agg (ec A).toArray) (exec_load_at 24 _ rfl rfl (sc_0 (h.rowo (k := 0) rfl)) rfl Tryd.underlying24 (ie4 _)) ?_
        exact hK.out _ _ ⟨l0, l1, true, true, l4, l5, l6, l7, l8, l9, l10, l11, l12, g6, by kernel_rfl, by kernel_rfl, h, (by first | exact hc12 | exact fun _ => rfl | exact fun e => (by cases e))⟩
      · have hn : l4 = false := ready_not hi
        have hd1 : l1 = true := ready_dep hi rfl (k := 0) rfl rfl
        have hd3 : l3 = true := ready_dep hi rfl (k := 1) rfl rfl
        clear hi hlt
        subst hn hd1 hd3
        refine wpOp_inv rfl rfl (fun K hK => ?_)
        simp only [putsA, Act.put, List.setIfInBounds_toArray, List.set_cons_zero, List.set_cons_succ, cond_true, cond_false] at h ⊢
        go_simp
        refine (cn4 _ (hP.below h.bel)).mono ?_
        rintro _ wn ⟨rfl, hb⟩
        replace h := h.below hb
        clear hb
        exact hK.out _ _ ⟨l0, true, l2, true, true, l5, l6, l7, l8, l9, l10, l11, l12, g6, by kernel_rfl, by kernel_rfl, h, (by first | exact hc12 | exact fun _ => rfl | exact fun e => (by cases e))⟩
      · have hn : l5 = false := ready_not hi
        clear hi hlt
        subst hn
        refine wpOp_inv rfl rfl (fun K hK => ?_)
        simp only [putsA, Act.put, List.setIfInBounds_toArray, List.set_cons_zero, List.set_cons_succ, cond_false] at h ⊢
        refine wp_value (.pointer (some ⟨(w.heap.size + 1), 4, none⟩)) (by go_simp) ?_
        exact hK.out _ _ ⟨l0, l1, l2, l3, l4, true, l6, l7, l8, l9, l10, l11, l12, g6, by kernel_rfl, by kernel_rfl, h, (by first | exact hc12 | exact fun _ => rfl | exact fun e => (by cases e))⟩
      · have hn : l6 = false := ready_not hi
        have hd5 : l5 = true := ready_dep hi rfl (k := 0) rfl rfl
        clear hi hlt
        subst hn hd5
        refine wpOp_inv rfl rfl (fun K hK => ?_)
        simp only [putsA, Act.put, List.setIfInBounds_toArray, List.set_cons_zero, List.set_cons_succ, cond_true, cond_false] at h ⊢
        refine wp_value (.agg (ec E).toArray) (exec_load_at 24 _ rfl rfl (sc_1 (h.rowo (k := 1) rfl)) rfl Tryd.underlying24 (ie4 _)) ?_
        exact hK.out _ _ ⟨l0, l1, l2, l3, l4, true, true, l7, l8, l9, l10, l11, l12, g6, by kernel_rfl, by kernel_rfl, h, (by first | exact hc12 | exact fun _ => rfl | exact fun e => (by cases e))⟩
      · have hn : l7 = false := ready_not hi
        clear hi hlt
        subst hn
        refine wpOp_inv rfl rfl (fun K hK => ?_)
        simp only [putsA, Act.put, List.setIfInBounds_toArray, List.set_cons_zero, List.set_cons_succ, cond_false] at h ⊢
        refine wp_value (.pointer (some ⟨(w.heap.size + 1), 0, none⟩)) (by go_simp) ?_
        exact hK.out _ _ ⟨l0, l1, l2, l3, l4, l5, l6, true, l8, l9, l10, l11, l12, g6, by kernel_rfl, by kernel_rfl, h, (by first | exact hc12 | exact fun _ => rfl | exact fun e => (by cases e))⟩
      · have hn : l8 = false := ready_not hi
        have hd7 : l7 = true := ready_dep hi rfl (k := 0) rfl rfl
        clear hi hlt
        subst hn hd7
        refine wpOp_inv rfl rfl (fun K hK => ?_)
        simp only [putsA, Act.put, List.setIfInBounds_toArray, List.set_cons_zero, List.set_cons_succ, cond_true, cond_false] at h ⊢
        refine wp_value (.agg (ec D).toArray) (exec_load_at 24 _ rfl rfl (sc_0 (h.rowo (k := 1) rfl)) rfl Tryd.underlying24 (ie4 _)) ?_
        exact hK.out _ _ ⟨l0, l1, l2, l3, l4, l5, l6, true, true, l9, l10, l11, l12, g6, by kernel_rfl, by kernel_rfl, h, (by first | exact hc12 | exact fun _ => rfl | exact fun e => (by cases e))⟩
      · have hn : l9 = false := ready_not hi
        have hd6 : l6 = true := ready_dep hi rfl (k := 0) rfl rfl
        have hd8 : l8 = true := ready_dep hi rfl (k := 1) rfl rfl
        have hd4 : l4 = true := ready_dep hi rfl (k := 2) rfl rfl
        clear hi hlt
        subst hn hd6 hd8 hd4
        refine wpOp_inv rfl rfl (fun K hK => ?_)
        simp only [putsA, Act.put, List.setIfInBounds_toArray, List.set_cons_zero, List.set_cons_succ, cond_true, cond_false] at h ⊢
        go_simp
        refine (cn5 _ (hP.below h.bel)).mono ?_
        rintro _ wn ⟨rfl, hb⟩
        replace h := h.below hb
        clear hb
        exact hK.out _ _ ⟨l0, l1, l2, l3, true, l5, true, l7, true, true, l10, l11, l12, g6, by kernel_rfl, by kernel_rfl, h, (by first | exact hc12 | exact fun _ => rfl | exact fun e => (by cases e))⟩
      · have hn : l10 = false := ready_not hi
        have hd4 : l4 = true := ready_dep hi rfl (k := 0) rfl rfl
        have hd9 : l9 = true := ready_dep hi rfl (k := 1) rfl rfl
        clear hi hlt
        subst hn hd4 hd9
        refine wpOp_inv rfl rfl (fun K hK => ?_)
        simp only [putsA, Act.put, List.setIfInBounds_toArray, List.set_cons_zero, List.set_cons_succ, cond_true, cond_false] at h ⊢
        go_simp
        refine (cn6 _ (hP.below h.bel)).mono ?_
        rintro _ wn ⟨rfl, hb⟩
        replace h := h.below hb
        clear hb
        exact hK.out _ _ ⟨l0, l1, l2, l3, true, l5, l6, l7, l8, true, true, l11, l12, g6, by kernel_rfl, by kernel_rfl, h, (by first | exact hc12 | exact fun _ => rfl | exact fun e => (by cases e))⟩
      · have hn : l11 = false := ready_not hi
        clear hi hlt
        subst hn
        obtain rfl : l12 = false := by cases l12 with | false => rfl | true => exact absurd (hc12 rfl) (by decide)
        refine wpOp_inv rfl rfl (fun K hK => ?_)
        simp only [putsA, Act.put, List.setIfInBounds_toArray, List.set_cons_zero, List.set_cons_succ, cond_false] at h ⊢
        refine wp_alloc_R 24 rfl (ec 0) z4w ?_
        obtain ⟨gn, hgq, hq⟩ := h.on (k := 4) rfl 24 (ec 0)
        rw [hgq]
        exact hK.out _ _ ⟨l0, l1, l2, l3, l4, l5, l6, l7, l8, l9, l10, true, false, gn, by kernel_rfl, by kernel_rfl, hq, (by first | exact hc12 | exact fun _ => rfl | exact fun e => (by cases e))⟩
      · have hn : l12 = false := ready_not hi
        have hd11 : l11 = true := ready_dep hi rfl (k := 0) rfl rfl
        have hd10 : l10 = true := ready_dep hi rfl (k := 1) rfl rfl
        have hd0 : l0 = true := ready_dep hi rfl (k := 3) rfl rfl
        have hd1 : l1 = true := ready_dep hi rfl (k := 4) rfl rfl
        have hd2 : l2 = true := ready_dep hi rfl (k := 5) rfl rfl
        have hd3 : l3 = true := ready_dep hi rfl (k := 6) rfl rfl
        have hd4 : l4 = true := ready_dep hi rfl (k := 7) rfl rfl
        have hd5 : l5 = true := ready_dep hi rfl (k := 8) rfl rfl
        have hd6 : l6 = true := ready_dep hi rfl (k := 9) rfl rfl
        have hd7 : l7 = true := ready_dep hi rfl (k := 10) rfl rfl
        have hd8 : l8 = true := ready_dep hi rfl (k := 11) rfl rfl
        have hd9 : l9 = true := ready_dep hi rfl (k := 12) rfl rfl
        clear hi hlt
        subst hn hd11 hd10 hd0 hd1 hd2 hd3 hd4 hd5 hd6 hd7 hd8 hd9
        refine wpOp_inv rfl rfl (fun K hK => ?_)
        simp only [putsA, Act.put, List.setIfInBounds_toArray, List.set_cons_zero, List.set_cons_succ, cond_true, cond_false] at h ⊢
        refine wp_store_R 24 _ _ rfl _ (ec n6) rfl rfl (h.rowo (k := 4) rfl) (ie4 _) rfl (ec_all _) ?_
        intro wz q hg hz
        replace h := h.puto (k := 4) rfl q hg
        exact hK.out _ _ ⟨true, true, true, true, true, true, true, true, true, true, true, true, true, g6, by kernel_rfl, by kernel_rfl, h, (by first | exact hc12 | exact fun _ => rfl | exact fun e => (by cases e))⟩
    case rest =>
      clear h
      intro l b w' hI hr
      obtain ⟨l0, l1, l2, l3, l4, l5, l6, l7, l8, l9, l10, l11, l12, g6, rfl, rfl, h, hc12⟩ := hI
      have hd : l0 = true := ready_nil (i := 0) hr rfl (by rfl)
      subst hd
      have hd : l1 = true := ready_nil (i := 1) hr rfl (by rfl)
      subst hd
      have hd : l2 = true := ready_nil (i := 2) hr rfl (by rfl)
      subst hd
      have hd : l3 = true := ready_nil (i := 3) hr rfl (by rfl)
      subst hd
      have hd : l4 = true := ready_nil (i := 4) hr rfl (by rfl)
      subst hd
      have hd : l5 = true := ready_nil (i := 5) hr rfl (by rfl)
      subst hd
      have hd : l6 = true := ready_nil (i := 6) hr rfl (by rfl)
      subst hd
      have hd : l7 = true := ready_nil (i := 7) hr rfl (by rfl)
      subst hd
      have hd : l8 = true := ready_nil (i := 8) hr rfl (by rfl)
      subst hd
      have hd : l9 = true := ready_nil (i := 9) hr rfl (by rfl)
      subst hd
      have hd : l10 = true := ready_nil (i := 10) hr rfl (by rfl)
      subst hd
      have hd : l11 = true := ready_nil (i := 11) hr rfl (by rfl)
      subst hd
      have hd : l12 = true := ready_nil (i := 12) hr rfl (by rfl)
      subst hd
      clear hr hc12
      simp only [putsA, Act.put, List.setIfInBounds_toArray, List.set_cons_zero, List.set_cons_succ, cond_true]
      replace h : Fr w w' [(w.heap.size, 52, sc A B M N), ((w.heap.size + 1), 52, sc D E G H), ((w.heap.size + 1 + 1), 52, sc 0 0 0 0), (g5, 24, ec n3), (g6, 24, ec n6)] := h
      go_upto_region 3 with fail
      try simp only [Act.put, List.setIfInBounds_toArray, List.set_cons_zero, List.set_cons_succ]
      replace h := h.drew
      refine wp_region_inv (by kernel_rfl) (fun a0 l b w' => ∃ (l0 l1 l2 l3 l4 l5 l6 l7 l8 l9 : Bool) (g7 g8 : Nat) , l = #[l0, l1, l2, l3, l4, l5, l6, l7, l8, l9] ∧ b = putsA a0 [(35, l0, .agg (ec n6).toArray, undef), (36, l1, .agg (ec n3).toArray, undef), (37, l2, .agg (ec n7).toArray, undef), (38, l3, .agg (ec n6).toArray, undef), (39, l4, .agg (ec n3).toArray, undef), (40, l5, .agg (ec n8).toArray, undef), (7, l6, .pointer (some ⟨g7, 0, none⟩), undef), (8, l7, .pointer (some ⟨g8, 0, none⟩), undef)] ∧ Fr w w' (opt [(true, (w.heap.size, 52, sc A B M N)), (true, ((w.heap.size + 1), 52, sc D E G H)), (true, ((w.heap.size + 1 + 1), 52, sc 0 0 0 0)), (true, (g5, 24, ec n3)), (true, (g6, 24, ec n6)), (l6, (g7, 24, bif l8 then ec n7 else ec 0)), (l7, (g8, 24, bif l9 then ec n8 else ec 0))]) ∧ (l8 = true → l6 = true) ∧ (l9 = true → l7 = true)) ?start ?step ?rest
      case start => exact ⟨false, false, false, false, false, false, false, false, false, false, 0, 0, by kernel_rfl, by kernel_rfl, h, (fun e => by cases e), (fun e => by cases e)⟩
      case step =>
        clear h
        intro l b w' hI i hi
        obtain ⟨l0, l1, l2, l3, l4, l5, l6, l7, l8, l9, g7, g8, rfl, rfl, h, hc8, hc9⟩ := hI
        have hlt : i < 10 := ready_lt hi
        obtain rfl | rfl | rfl | rfl | rfl | rfl | rfl | rfl | rfl | rfl := (by omega : i = 0 ∨ i = 1 ∨ i = 2 ∨ i = 3 ∨ i = 4 ∨ i = 5 ∨ i = 6 ∨ i = 7 ∨ i = 8 ∨ i = 9)
        · have hn : l0 = false := ready_not hi
          clear hi hlt
          subst hn
          refine wpOp_inv rfl rfl (fun K hK => ?_)
          simp only [putsA, Act.put, List.setIfInBounds_toArray, List.set_cons_zero, List.set_cons_succ, cond_false] at h ⊢
          refine wp_value (.agg (ec n6).toArray) (exec_load_W 24 _ rfl rfl (h.rowo (k := 4) rfl) Tryd.underlying24 rfl (ie4 _)) ?_
          exact hK.out _ _ ⟨true, l1, l2, l3, l4, l5, l6, l7, l8, l9, g7, g8, by kernel_rfl, by kernel_rfl, h, (by first | exact hc8 | exact fun _ => rfl | exact fun e => (by cases e)), (by first | exact hc9 | exact fun _ => rfl | exact fun e => (by cases e))⟩
        · have hn : l1 = false := ready_not hi
          clear hi hlt
          subst hn
          refine wpOp_inv rfl rfl (fun K hK => ?_)
          simp only [putsA, Act.put, List.setIfInBounds_toArray, List.set_cons_zero, List.set_cons_succ, cond_false] at h ⊢
          refine wp_value (.agg (ec n3).toArray) (exec_load_W 24 _ rfl rfl (h.rowo (k := 3) rfl) Tryd.underlying24 rfl (ie4 _)) ?_
          exact hK.out _ _ ⟨l0, true, l2, l3, l4, l5, l6, l7, l8, l9, g7, g8, by kernel_rfl, by kernel_rfl, h, (by first | exact hc8 | exact fun _ => rfl | exact fun e => (by cases e)), (by first | exact hc9 | exact fun _ => rfl | exact fun e => (by cases e))⟩
        · have hn : l2 = false := ready_not hi
          have hd0 : l0 = true := ready_dep hi rfl (k := 0) rfl rfl
          have hd1 : l1 = true := ready_dep hi rfl (k := 1) rfl rfl
          clear hi hlt
          subst hn hd0 hd1
          refine wpOp_inv rfl rfl (fun K hK => ?_)
          simp only [putsA, Act.put, List.setIfInBounds_toArray, List.set_cons_zero, List.set_cons_succ, cond_true, cond_false] at h ⊢
          go_simp
          refine (cn7 _ (hP.below h.bel)).mono ?_
          rintro _ wn ⟨rfl, hb⟩
          replace h := h.below hb
          clear hb
          exact hK.out _ _ ⟨true, true, true, l3, l4, l5, l6, l7, l8, l9, g7, g8, by kernel_rfl, by kernel_rfl, h, (by first | exact hc8 | exact fun _ => rfl | exact fun e => (by cases e)), (by first | exact hc9 | exact fun _ => rfl | exact fun e => (by cases e))⟩
        · have hn : l3 = false := ready_not hi
          clear hi hlt
          subst hn
          refine wpOp_inv rfl rfl (fun K hK => ?_)
          simp only [putsA, Act.put, List.setIfInBounds_toArray, List.set_cons_zero, List.set_cons_succ, cond_false] at h ⊢
          refine wp_value (.agg (ec n6).toArray) (exec_load_W 24 _ rfl rfl (h.rowo (k := 4) rfl) Tryd.underlying24 rfl (ie4 _)) ?_
          exact hK.out _ _ ⟨l0, l1, l2, true, l4, l5, l6, l7, l8, l9, g7, g8, by kernel_rfl, by kernel_rfl, h, (by first | exact hc8 | exact fun _ => rfl | exact fun e => (by cases e)), (by first | exact hc9 | exact fun _ => rfl | exact fun e => (by cases e))⟩
        · have hn : l4 = false := ready_not hi
          clear hi hlt
          subst hn
          refine wpOp_inv rfl rfl (fun K hK => ?_)
          simp only [putsA, Act.put, List.setIfInBounds_toArray, List.set_cons_zero, List.set_cons_succ, cond_false] at h ⊢
          refine wp_value (.agg (ec n3).toArray) (exec_load_W 24 _ rfl rfl (h.rowo (k := 3) rfl) Tryd.underlying24 rfl (ie4 _)) ?_
          exact hK.out _ _ ⟨l0, l1, l2, l3, true, l5, l6, l7, l8, l9, g7, g8, by kernel_rfl, by kernel_rfl, h, (by first | exact hc8 | exact fun _ => rfl | exact fun e => (by cases e)), (by first | exact hc9 | exact fun _ => rfl | exact fun e => (by cases e))⟩
        · have hn : l5 = false := ready_not hi
          have hd3 : l3 = true := ready_dep hi rfl (k := 0) rfl rfl
          have hd4 : l4 = true := ready_dep hi rfl (k := 1) rfl rfl
          have hd2 : l2 = true := ready_dep hi rfl (k := 2) rfl rfl
          clear hi hlt
          subst hn hd3 hd4 hd2
          refine wpOp_inv rfl rfl (fun K hK => ?_)
          simp only [putsA, Act.put, List.setIfInBounds_toArray, List.set_cons_zero, List.set_cons_succ, cond_true, cond_false] at h ⊢
          go_simp
          refine (cn8 _ (hP.below h.bel)).mono ?_
          rintro _ wn ⟨rfl, hb⟩
          replace h := h.below hb
          clear hb
          exact hK.out _ _ ⟨l0, l1, true, true, true, true, l6, l7, l8, l9, g7, g8, by kernel_rfl, by kernel_rfl, h, (by first | exact hc8 | exact fun _ => rfl | exact fun e => (by cases e)), (by first | exact hc9 | exact fun _ => rfl | exact fun e => (by cases e))⟩
        · have hn : l6 = false := ready_not hi
          clear hi hlt
          subst hn
          obtain rfl : l8 = false := by cases l8 with | false => rfl | true => exact absurd (hc8 rfl) (by decide)
          refine wpOp_inv rfl rfl (fun K hK => ?_)
          simp only [putsA, Act.put, List.setIfInBounds_toArray, List.set_cons_zero, List.set_cons_succ, cond_false] at h ⊢
          refine wp_alloc_R 24 rfl (ec 0) z4w ?_
          obtain ⟨gn, hgq, hq⟩ := h.on (k := 5) rfl 24 (ec 0)
          rw [hgq]
          exact hK.out _ _ ⟨l0, l1, l2, l3, l4, l5, true, l7, false, l9, gn, g8, by kernel_rfl, by kernel_rfl, hq, (by first | exact hc8 | exact fun _ => rfl | exact fun e => (by cases e)), (by first | exact hc9 | exact fun _ => rfl | exact fun e => (by cases e))⟩
        · have hn : l7 = false := ready_not hi
          clear hi hlt
          subst hn
          obtain rfl : l9 = false := by cases l9 with | false => rfl | true => exact absurd (hc9 rfl) (by decide)
          refine wpOp_inv rfl rfl (fun K hK => ?_)
          simp only [putsA, Act.put, List.setIfInBounds_toArray, List.set_cons_zero, List.set_cons_succ, cond_false] at h ⊢
          refine wp_alloc_R 24 rfl (ec 0) z4w ?_
          obtain ⟨gn, hgq, hq⟩ := h.on (k := 6) rfl 24 (ec 0)
          rw [hgq]
          exact hK.out _ _ ⟨l0, l1, l2, l3, l4, l5, l6, true, l8, false, g7, gn, by kernel_rfl, by kernel_rfl, hq, (by first | exact hc8 | exact fun _ => rfl | exact fun e => (by cases e)), (by first | exact hc9 | exact fun _ => rfl | exact fun e => (by cases e))⟩
        · have hn : l8 = false := ready_not hi
          have hd6 : l6 = true := ready_dep hi rfl (k := 0) rfl rfl
          have hd2 : l2 = true := ready_dep hi rfl (k := 1) rfl rfl
          have hd5 : l5 = true := ready_dep hi rfl (k := 2) rfl rfl
          have hd0 : l0 = true := ready_dep hi rfl (k := 3) rfl rfl
          have hd1 : l1 = true := ready_dep hi rfl (k := 4) rfl rfl
          have hd7 : l7 = true := ready_dep hi rfl (k := 10) rfl rfl
          clear hi hlt
          subst hn hd6 hd2 hd5 hd0 hd1 hd7
          refine wpOp_inv rfl rfl (fun K hK => ?_)
          simp only [putsA, Act.put, List.setIfInBounds_toArray, List.set_cons_zero, List.set_cons_succ, cond_true, cond_false] at h ⊢
          refine wp_store_R 24 _ _ rfl _ (ec n7) rfl rfl (h.rowo (k := 5) rfl) (ie4 _) rfl (ec_all _) ?_
          intro wz q hg hz
          replace h := h.puto (k := 5) rfl q hg
          exact hK.out _ _ ⟨true, true, true, l3, l4, true, true, true, true, l9, g7, g8, by kernel_rfl, by kernel_rfl, h, (by first | exact hc8 | exact fun _ => rfl | exact fun e => (by cases e)), (by first | exact hc9 | exact fun _ => rfl | exact fun e => (by cases e))⟩
        · have hn : l9 = false := ready_not hi
          have hd7 : l7 = true := ready_dep hi rfl (k := 0) rfl rfl
          have hd5 : l5 = true := ready_dep hi rfl (k := 1) rfl rfl
          have hd8 : l8 = true := ready_dep hi rfl (k := 2) rfl rfl
          have hd0 : l0 = true := ready_dep hi rfl (k := 3) rfl rfl
          have hd1 : l1 = true := ready_dep hi rfl (k := 4) rfl rfl
          have hd2 : l2 = true := ready_dep hi rfl (k := 5) rfl rfl
          have hd3 : l3 = true := ready_dep hi rfl (k := 6) rfl rfl
          have hd4 : l4 = true := ready_dep hi rfl (k := 7) rfl rfl
          have hd6 : l6 = true := ready_dep hi rfl (k := 9) rfl rfl
          clear hi hlt
          subst hn hd7 hd5 hd8 hd0 hd1 hd2 hd3 hd4 hd6
          refine wpOp_inv rfl rfl (fun K hK => ?_)
          simp only [putsA, Act.put, List.setIfInBounds_toArray, List.set_cons_zero, List.set_cons_succ, cond_true, cond_false] at h ⊢
          refine wp_store_R 24 _ _ rfl _ (ec n8) rfl rfl (h.rowo (k := 6) rfl) (ie4 _) rfl (ec_all _) ?_
          intro wz q hg hz
          replace h := h.puto (k := 6) rfl q hg
          exact hK.out _ _ ⟨true, true, true, true, true, true, true, true, true, true, g7, g8, by kernel_rfl, by kernel_rfl, h, (by first | exact hc8 | exact fun _ => rfl | exact fun e => (by cases e)), (by first | exact hc9 | exact fun _ => rfl | exact fun e => (by cases e))⟩
      case rest =>
        clear h
        intro l b w' hI hr
        obtain ⟨l0, l1, l2, l3, l4, l5, l6, l7, l8, l9, g7, g8, rfl, rfl, h, hc8, hc9⟩ := hI
        have hd : l0 = true := ready_nil (i := 0) hr rfl (by rfl)
        subst hd
        have hd : l1 = true := ready_nil (i := 1) hr rfl (by rfl)
        subst hd
        have hd : l2 = true := ready_nil (i := 2) hr rfl (by rfl)
        subst hd
        have hd : l3 = true := ready_nil (i := 3) hr rfl (by rfl)
        subst hd
        have hd : l4 = true := ready_nil (i := 4) hr rfl (by rfl)
        subst hd
        have hd : l5 = true := ready_nil (i := 5) hr rfl (by rfl)
        subst hd
        have hd : l6 = true := ready_nil (i := 6) hr rfl (by rfl)
        subst hd
        have hd : l7 = true := ready_nil (i := 7) hr rfl (by rfl)
        subst hd
        have hd : l8 = true := ready_nil (i := 8) hr rfl (by rfl)
        subst hd
        have hd : l9 = true := ready_nil (i := 9) hr rfl (by rfl)
        subst hd
        clear hr hc8 hc9
        simp only [putsA, Act.put, List.setIfInBounds_toArray, List.set_cons_zero, List.set_cons_succ, cond_true]
        replace h : Fr w w' [(w.heap.size, 52, sc A B M N), ((w.heap.size + 1), 52, sc D E G H), ((w.heap.size + 1 + 1), 52, sc 0 0 0 0), (g5, 24, ec n3), (g6, 24, ec n6), (g7, 24, ec n7), (g8, 24, ec n8)] := h
        go_upto_region 4 with fail
        try simp only [Act.put, List.setIfInBounds_toArray, List.set_cons_zero, List.set_cons_succ]
        replace h := h.drew
        refine wp_region_inv (by kernel_rfl) (fun a0 l b w' => ∃ (l0 l1 l2 l3 l4 l5 l6 l7 l8 l9 l10 l11 l12 l13 l14 l15 l16 l17 : Bool) (g9 g10 : Nat) , l = #[l0, l1, l2, l3, l4, l5, l6, l7, l8, l9, l10, l11, l12, l13, l14, l15, l16, l17] ∧ b = putsA a0 [(41, l0, .pointer (some ⟨w.heap.size, 12, none⟩), undef), (42, l1, .agg (ec N).toArray, undef), (43, l2, .pointer (some ⟨(w.heap.size + 1), 12, none⟩), undef), (44, l3, .agg (ec H).toArray, undef), (45, l4, .agg (ec n9).toArray, undef), (46, l5, .agg (ec n10).toArray, undef), (47, l6, .agg (ec Dn).toArray, undef), (48, l7, .pointer (some ⟨w.heap.size, 8, none⟩), undef), (49, l8, .agg (ec M).toArray, undef), (50, l9, .pointer (some ⟨(w.heap.size + 1), 8, none⟩), undef), (51, l10, .agg (ec G).toArray, undef), (52, l11, .agg (ec n11).toArray, undef), (53, l12, .agg (ec n12).toArray, undef), (54, l13, .agg (ec n13).toArray, undef), (9, l14, .pointer (some ⟨g9, 0, none⟩), undef), (10, l15, .pointer (some ⟨g10, 0, none⟩), undef)] ∧ Fr w w' (opt [(true, (w.heap.size, 52, sc A B M N)), (true, ((w.heap.size + 1), 52, sc D E G H)), (true, ((w.heap.size + 1 + 1), 52, sc 0 0 0 0)), (true, (g5, 24, ec n3)), (true, (g6, 24, ec n6)), (true, (g7, 24, ec n7)), (true, (g8, 24, ec n8)), (l14, (g9, 24, bif l16 then ec n10 else ec 0)), (l15, (g10, 24, bif l17 then ec n13 else ec 0))]) ∧ (l16 = true → l14 = true) ∧ (l17 = true → l15 = true)) ?start ?step ?rest
        case start => exact ⟨false, false, false, false, false, false, false, false, false, false, false, false, false, false, false, false, false, false, 0, 0, by kernel_rfl, by kernel_rfl, h, (fun e => by cases e), (fun e => by cases e)⟩
        case step =>
          clear h
          intro l b w' hI i hi
          obtain ⟨l0, l1, l2, l3, l4, l5, l6, l7, l8, l9, l10, l11, l12, l13, l14, l15, l16, l17, g9, g10, rfl, rfl, h, hc16, hc17⟩ := hI
          have hlt : i < 18 := ready_lt hi
          obtain rfl | rfl | rfl | rfl | rfl | rfl | rfl | rfl | rfl | rfl | rfl | rfl | rfl | rfl | rfl | rfl | rfl | rfl := (by omega : i = 0 ∨ i = 1 ∨ i = 2 ∨ i = 3 ∨ i = 4 ∨ i = 5 ∨ i = 6 ∨ i = 7 ∨ i = 8 ∨ i = 9 ∨ i = 10 ∨ i = 11 ∨ i = 12 ∨ i = 13 ∨ i = 14 ∨ i = 15 ∨ i = 16 ∨ i = 17)
          · have hn : l0 = false := ready_not hi
            clear hi hlt
            subst hn
            refine wpOp_inv rfl rfl (fun K hK => ?_)
            simp only [putsA, Act.put, List.setIfInBounds_toArray, List.set_cons_zero, List.set_cons_succ, cond_false] at h ⊢
            refine wp_value (.pointer (some ⟨w.heap.size, 12, none⟩)) (by go_simp) ?_
            exact hK.out _ _ ⟨true, l1, l2, l3, l4, l5, l6, l7, l8, l9, l10, l11, l12, l13, l14, l15, l16, l17, g9, g10, by kernel_rfl, by kernel_rfl, h, (by first | exact hc16 | exact fun _ => rfl | exact fun e => (by cases e)), (by first | exact hc17 | exact fun _ => rfl | exact fun e => (by cases e))⟩
          · have hn : l1 = false := ready_not hi
            have hd0 : l0 = true := ready_dep hi rfl (k := 0) rfl rfl
            clear hi hlt
            subst hn hd0
            refine wpOp_inv rfl rfl (fun K hK => ?_)
            simp only [putsA, Act.put, List.setIfInBounds_toArray, List.set_cons_zero, List.set_cons_succ, cond_true, cond_false] at h ⊢
            refine wp_value (.agg (ec N).toArray) (exec_load_at 24 _ rfl rfl (sc_3 (h.rowo (k := 0) rfl)) rfl Tryd.underlying24 (ie4 _)) ?_
            exact hK.out _ _ ⟨true, true, l2, l3, l4, l5, l6, l7, l8, l9, l10, l11, l12, l13, l14, l15, l16, l17, g9, g10, by kernel_rfl, by kernel_rfl, h, (by first | exact hc16 | exact fun _ => rfl | exact fun e => (by cases e)), (by first | exact hc17 | exact fun _ => rfl | exact fun e => (by cases e))⟩
          · have hn : l2 = false := ready_not hi
            clear hi hlt
            subst hn
            refine wpOp_inv rfl rfl (fun K hK => ?_)
            simp only [putsA, Act.put, List.setIfInBounds_toArray, List.set_cons_zero, List.set_cons_succ, cond_false] at h ⊢
            refine wp_value (.pointer (some ⟨(w.heap.size + 1), 12, none⟩)) (by go_simp) ?_
            exact hK.out _ _ ⟨l0, l1, true, l3, l4, l5, l6, l7, l8, l9, l10, l11, l12, l13, l14, l15, l16, l17, g9, g10, by kernel_rfl, by kernel_rfl, h, (by first | exact hc16 | exact fun _ => rfl | exact fun e => (by cases e)), (by first | exact hc17 | exact fun _ => rfl | exact fun e => (by cases e))⟩
          · have hn : l3 = false := ready_not hi
            have hd2 : l2 = true := ready_dep hi rfl (k := 0) rfl rfl
            clear hi hlt
            subst hn hd2
            refine wpOp_inv rfl rfl (fun K hK => ?_)
            simp only [putsA, Act.put, List.setIfInBounds_toArray, List.set_cons_zero, List.set_cons_succ, cond_true, cond_false] at h ⊢
            refine wp_value (.agg (ec H).toArray) (exec_load_at 24 _ rfl rfl (sc_3 (h.rowo (k := 1) rfl)) rfl Tryd.underlying24 (ie4 _)) ?_
            exact hK.out _ _ ⟨l0, l1, true, true, l4, l5, l6, l7, l8, l9, l10, l11, l12, l13, l14, l15, l16, l17, g9, g10, by kernel_rfl, by kernel_rfl, h, (by first | exact hc16 | exact fun _ => rfl | exact fun e => (by cases e)), (by first | exact hc17 | exact fun _ => rfl | exact fun e => (by cases e))⟩
          · have hn : l4 = false := ready_not hi
            have hd1 : l1 = true := ready_dep hi rfl (k := 0) rfl rfl
            have hd3 : l3 = true := ready_dep hi rfl (k := 1) rfl rfl
            clear hi hlt
            subst hn hd1 hd3
            refine wpOp_inv rfl rfl (fun K hK => ?_)
            simp only [putsA, Act.put, List.setIfInBounds_toArray, List.set_cons_zero, List.set_cons_succ, cond_true, cond_false] at h ⊢
            go_simp
            refine (cn9 _ (hP.below h.bel)).mono ?_
            rintro _ wn ⟨rfl, hb⟩
            replace h := h.below hb
            clear hb
            exact hK.out _ _ ⟨l0, true, l2, true, true, l5, l6, l7, l8, l9, l10, l11, l12, l13, l14, l15, l16, l17, g9, g10, by kernel_rfl, by kernel_rfl, h, (by first | exact hc16 | exact fun _ => rfl | exact fun e => (by cases e)), (by first | exact hc17 | exact fun _ => rfl | exact fun e => (by cases e))⟩
          · have hn : l5 = false := ready_not hi
            have hd4 : l4 = true := ready_dep hi rfl (k := 0) rfl rfl
            clear hi hlt
            subst hn hd4
            refine wpOp_inv rfl rfl (fun K hK => ?_)
            simp only [putsA, Act.put, List.setIfInBounds_toArray, List.set_cons_zero, List.set_cons_succ, cond_true, cond_false] at h ⊢
            go_simp
            refine (cn10 _ (hP.below h.bel)).mono ?_
            rintro _ wn ⟨rfl, hb⟩
            replace h := h.below hb
            clear hb
            exact hK.out _ _ ⟨l0, l1, l2, l3, true, true, l6, l7, l8, l9, l10, l11, l12, l13, l14, l15, l16, l17, g9, g10, by kernel_rfl, by kernel_rfl, h, (by first | exact hc16 | exact fun _ => rfl | exact fun e => (by cases e)), (by first | exact hc17 | exact fun _ => rfl | exact fun e => (by cases e))⟩
          · have hn : l6 = false := ready_not hi
            clear hi hlt
            subst hn
            refine wpOp_inv rfl rfl (fun K hK => ?_)
            simp only [putsA, Act.put, List.setIfInBounds_toArray, List.set_cons_zero, List.set_cons_succ, cond_false] at h ⊢
            refine wp_value (.agg (ec Dn).toArray) (exec_load_G 24 _ rfl rfl ((hE.below h.bel).d.c) Tryd.underlying24 rfl (ie4 _)) ?_
            exact hK.out _ _ ⟨l0, l1, l2, l3, l4, l5, true, l7, l8, l9, l10, l11, l12, l13, l14, l15, l16, l17, g9, g10, by kernel_rfl, by kernel_rfl, h, (by first | exact hc16 | exact fun _ => rfl | exact fun e => (by cases e)), (by first | exact hc17 | exact fun _ => rfl | exact fun e => (by cases e))⟩
          · have hn : l7 = false := ready_not hi
            clear hi hlt
            subst hn
            refine wpOp_inv rfl rfl (fun K hK => ?_)
            simp only [putsA, Act.put, List.setIfInBounds_toArray, List.set_cons_zero, List.set_cons_succ, cond_false] at h ⊢
            refine wp_value (.pointer (some ⟨w.heap.size, 8, none⟩)) (by go_simp) ?_
            exact hK.out _ _ ⟨l0, l1, l2, l3, l4, l5, l6, true, l8, l9, l10, l11, l12, l13, l14, l15, l16, l17, g9, g10, by kernel_rfl, by kernel_rfl, h, (by first | exact hc16 | exact fun _ => rfl | exact fun e => (by cases e)), (by first | exact hc17 | exact fun _ => rfl | exact fun e => (by cases e))⟩
          · have hn : l8 = false := ready_not hi
            have hd7 : l7 = true := ready_dep hi rfl (k := 0) rfl rfl
            clear hi hlt
            subst hn hd7
            refine wpOp_inv rfl rfl (fun K hK => ?_)
            simp only [putsA, Act.put, List.setIfInBounds_toArray, List.set_cons_zero, List.set_cons_succ, cond_true, cond_false] at h ⊢
            refine wp_value (.agg (ec M).toArray) (exec_load_at 24 _ rfl rfl (sc_2 (h.rowo (k := 0) rfl)) rfl Tryd.underlying24 (ie4 _)) ?_
            exact hK.out _ _ ⟨l0, l1, l2, l3, l4, l5, l6, true, true, l9, l10, l11, l12, l13, l14, l15, l16, l17, g9, g10, by kernel_rfl, by kernel_rfl, h, (by first | exact hc16 | exact fun _ => rfl | exact fun e => (by cases e)), (by first | exact hc17 | exact fun _ => rfl | exact fun e => (by cases e))⟩
          · have hn : l9 = false := ready_not hi
            clear hi hlt
            subst hn
            refine wpOp_inv rfl rfl (fun K hK => ?_)
            simp only [putsA, Act.put, List.setIfInBounds_toArray, List.set_cons_zero, List.set_cons_succ, cond_false] at h ⊢
            refine wp_value (.pointer (some ⟨(w.heap.size + 1), 8, none⟩)) (by go_simp) ?_
            exact hK.out _ _ ⟨l0, l1, l2, l3, l4, l5, l6, l7, l8, true, l10, l11, l12, l13, l14, l15, l16, l17, g9, g10, by kernel_rfl, by kernel_rfl, h, (by first | exact hc16 | exact fun _ => rfl | exact fun e => (by cases e)), (by first | exact hc17 | exact fun _ => rfl | exact fun e => (by cases e))⟩
          · have hn : l10 = false := ready_not hi
            have hd9 : l9 = true := ready_dep hi rfl (k := 0) rfl rfl
            clear hi hlt
            subst hn hd9
            refine wpOp_inv rfl rfl (fun K hK => ?_)
            simp only [putsA, Act.put, List.setIfInBounds_toArray, List.set_cons_zero, List.set_cons_succ, cond_true, cond_false] at h ⊢
            refine wp_value (.agg (ec G).toArray) (exec_load_at 24 _ rfl rfl (sc_2 (h.rowo (k := 1) rfl)) rfl Tryd.underlying24 (ie4 _)) ?_
            exact hK.out _ _ ⟨l0, l1, l2, l3, l4, l5, l6, l7, l8, true, true, l11, l12, l13, l14, l15, l16, l17, g9, g10, by kernel_rfl, by kernel_rfl, h, (by first | exact hc16 | exact fun _ => rfl | exact fun e => (by cases e)), (by first | exact hc17 | exact fun _ => rfl | exact fun e => (by cases e))⟩
          · have hn : l11 = false := ready_not hi
            have hd8 : l8 = true := ready_dep hi rfl (k := 0) rfl rfl
            have hd10 : l10 = true := ready_dep hi rfl (k := 1) rfl rfl
            have hd5 : l5 = true := ready_dep hi rfl (k := 2) rfl rfl
            clear hi hlt
            subst hn hd8 hd10 hd5
            refine wpOp_inv rfl rfl (fun K hK => ?_)
            simp only [putsA, Act.put, List.setIfInBounds_toArray, List.set_cons_zero, List.set_cons_succ, cond_true, cond_false] at h ⊢
            go_simp
            refine (cn11 _ (hP.below h.bel)).mono ?_
            rintro _ wn ⟨rfl, hb⟩
            replace h := h.below hb
            clear hb
            exact hK.out _ _ ⟨l0, l1, l2, l3, l4, true, l6, l7, true, l9, true, true, l12, l13, l14, l15, l16, l17, g9, g10, by kernel_rfl, by kernel_rfl, h, (by first | exact hc16 | exact fun _ => rfl | exact fun e => (by cases e)), (by first | exact hc17 | exact fun _ => rfl | exact fun e => (by cases e))⟩
          · have hn : l12 = false := ready_not hi
            have hd6 : l6 = true := ready_dep hi rfl (k := 0) rfl rfl
            have hd11 : l11 = true := ready_dep hi rfl (k := 1) rfl rfl
            clear hi hlt
            subst hn hd6 hd11
            refine wpOp_inv rfl rfl (fun K hK => ?_)
            simp only [putsA, Act.put, List.setIfInBounds_toArray, List.set_cons_zero, List.set_cons_succ, cond_true, cond_false] at h ⊢
            go_simp
            refine (cn12 _ (hP.below h.bel)).mono ?_
            rintro _ wn ⟨rfl, hb⟩
            replace h := h.below hb
            clear hb
            exact hK.out _ _ ⟨l0, l1, l2, l3, l4, l5, true, l7, l8, l9, l10, true, true, l13, l14, l15, l16, l17, g9, g10, by kernel_rfl, by kernel_rfl, h, (by first | exact hc16 | exact fun _ => rfl | exact fun e => (by cases e)), (by first | exact hc17 | exact fun _ => rfl | exact fun e => (by cases e))⟩
          · have hn : l13 = false := ready_not hi
            have hd12 : l12 = true := ready_dep hi rfl (k := 0) rfl rfl
            clear hi hlt
            subst hn hd12
            refine wpOp_inv rfl rfl (fun K hK => ?_)
            simp only [putsA, Act.put, List.setIfInBounds_toArray, List.set_cons_zero, List.set_cons_succ, cond_true, cond_false] at h ⊢
            go_simp
            refine (cn13 _ (hP.below h.bel)).mono ?_
            rintro _ wn ⟨rfl, hb⟩
            replace h := h.below hb
            clear hb
            exact hK.out _ _ ⟨l0, l1, l2, l3, l4, l5, l6, l7, l8, l9, l10, l11, true, true, l14, l15, l16, l17, g9, g10, by kernel_rfl, by kernel_rfl, h, (by first | exact hc16 | exact fun _ => rfl | exact fun e => (by cases e)), (by first | exact hc17 | exact fun _ => rfl | exact fun e => (by cases e))⟩
          · have hn : l14 = false := ready_not hi
            clear hi hlt
            subst hn
            obtain rfl : l16 = false := by cases l16 with | false => rfl | true => exact absurd (hc16 rfl) (by decide)
            refine wpOp_inv rfl rfl (fun K hK => ?_)
            simp only [putsA, Act.put, List.setIfInBounds_toArray, List.set_cons_zero, List.set_cons_succ, cond_false] at h ⊢
            refine wp_alloc_R 24 rfl (ec 0) z4w ?_
            obtain ⟨gn, hgq, hq⟩ := h.on (k := 7) rfl 24 (ec 0)
            rw [hgq]
            exact hK.out _ _ ⟨l0, l1, l2, l3, l4, l5, l6, l7, l8, l9, l10, l11, l12, l13, true, l15, false, l17, gn, g10, by kernel_rfl, by kernel_rfl, hq, (by first | exact hc16 | exact fun _ => rfl | exact fun e => (by cases e)), (by first | exact hc17 | exact fun _ => rfl | exact fun e => (by cases e))⟩
          · have hn : l15 = false := ready_not hi
            clear hi hlt
            subst hn
            obtain rfl : l17 = false := by cases l17 with | false => rfl | true => exact absurd (hc17 rfl) (by decide)
            refine wpOp_inv rfl rfl (fun K hK => ?_)
            simp only [putsA, Act.put, List.setIfInBounds_toArray, List.set_cons_zero, List.set_cons_succ, cond_false] at h ⊢
            refine wp_alloc_R 24 rfl (ec 0) z4w ?_
            obtain ⟨gn, hgq, hq⟩ := h.on (k := 8) rfl 24 (ec 0)
            rw [hgq]
            exact hK.out _ _ ⟨l0, l1, l2, l3, l4, l5, l6, l7, l8, l9, l10, l11, l12, l13, l14, true, l16, false, g9, gn, by kernel_rfl, by kernel_rfl, hq, (by first | exact hc16 | exact fun _ => rfl | exact fun e => (by cases e)), (by first | exact hc17 | exact fun _ => rfl | exact fun e => (by cases e))⟩
          · have hn : l16 = false := ready_not hi
            have hd14 : l14 = true := ready_dep hi rfl (k := 0) rfl rfl
            have hd5 : l5 = true := ready_dep hi rfl (k := 1) rfl rfl
            have hd13 : l13 = true := ready_dep hi rfl (k := 2) rfl rfl
            have hd0 : l0 = true := ready_dep hi rfl (k := 3) rfl rfl
            have hd1 : l1 = true := ready_dep hi rfl (k := 4) rfl rfl
            have hd2 : l2 = true := ready_dep hi rfl (k := 5) rfl rfl
            have hd3 : l3 = true := ready_dep hi rfl (k := 6) rfl rfl
            have hd4 : l4 = true := ready_dep hi rfl (k := 7) rfl rfl
            have hd15 : l15 = true := ready_dep hi rfl (k := 18) rfl rfl
            clear hi hlt
            subst hn hd14 hd5 hd13 hd0 hd1 hd2 hd3 hd4 hd15
            refine wpOp_inv rfl rfl (fun K hK => ?_)
            simp only [putsA, Act.put, List.setIfInBounds_toArray, List.set_cons_zero, List.set_cons_succ, cond_true, cond_false] at h ⊢
            refine wp_store_R 24 _ _ rfl _ (ec n10) rfl rfl (h.rowo (k := 7) rfl) (ie4 _) rfl (ec_all _) ?_
            intro wz q hg hz
            replace h := h.puto (k := 7) rfl q hg
            exact hK.out _ _ ⟨true, true, true, true, true, true, l6, l7, l8, l9, l10, l11, l12, true, true, true, true, l17, g9, g10, by kernel_rfl, by kernel_rfl, h, (by first | exact hc16 | exact fun _ => rfl | exact fun e => (by cases e)), (by first | exact hc17 | exact fun _ => rfl | exact fun e => (by cases e))⟩
          · have hn : l17 = false := ready_not hi
            have hd15 : l15 = true := ready_dep hi rfl (k := 0) rfl rfl
            have hd13 : l13 = true := ready_dep hi rfl (k := 1) rfl rfl
            have hd16 : l16 = true := ready_dep hi rfl (k := 2) rfl rfl
            have hd0 : l0 = true := ready_dep hi rfl (k := 3) rfl rfl
            have hd1 : l1 = true := ready_dep hi rfl (k := 4) rfl rfl
            have hd2 : l2 = true := ready_dep hi rfl (k := 5) rfl rfl
            have hd3 : l3 = true := ready_dep hi rfl (k := 6) rfl rfl
            have hd4 : l4 = true := ready_dep hi rfl (k := 7) rfl rfl
            have hd5 : l5 = true := ready_dep hi rfl (k := 8) rfl rfl
            have hd6 : l6 = true := ready_dep hi rfl (k := 9) rfl rfl
            have hd7 : l7 = true := ready_dep hi rfl (k := 10) rfl rfl
            have hd8 : l8 = true := ready_dep hi rfl (k := 11) rfl rfl
            have hd9 : l9 = true := ready_dep hi rfl (k := 12) rfl rfl
            have hd10 : l10 = true := ready_dep hi rfl (k := 13) rfl rfl
            have hd11 : l11 = true := ready_dep hi rfl (k := 14) rfl rfl
            have hd12 : l12 = true := ready_dep hi rfl (k := 15) rfl rfl
            have hd14 : l14 = true := ready_dep hi rfl (k := 17) rfl rfl
            clear hi hlt
            subst hn hd15 hd13 hd16 hd0 hd1 hd2 hd3 hd4 hd5 hd6 hd7 hd8 hd9 hd10 hd11 hd12 hd14
            refine wpOp_inv rfl rfl (fun K hK => ?_)
            simp only [putsA, Act.put, List.setIfInBounds_toArray, List.set_cons_zero, List.set_cons_succ, cond_true, cond_false] at h ⊢
            refine wp_store_R 24 _ _ rfl _ (ec n13) rfl rfl (h.rowo (k := 8) rfl) (ie4 _) rfl (ec_all _) ?_
            intro wz q hg hz
            replace h := h.puto (k := 8) rfl q hg
            exact hK.out _ _ ⟨true, true, true, true, true, true, true, true, true, true, true, true, true, true, true, true, true, true, g9, g10, by kernel_rfl, by kernel_rfl, h, (by first | exact hc16 | exact fun _ => rfl | exact fun e => (by cases e)), (by first | exact hc17 | exact fun _ => rfl | exact fun e => (by cases e))⟩
        case rest =>
          clear h
          intro l b w' hI hr
          obtain ⟨l0, l1, l2, l3, l4, l5, l6, l7, l8, l9, l10, l11, l12, l13, l14, l15, l16, l17, g9, g10, rfl, rfl, h, hc16, hc17⟩ := hI
          have hd : l0 = true := ready_nil (i := 0) hr rfl (by rfl)
          subst hd
          have hd : l1 = true := ready_nil (i := 1) hr rfl (by rfl)
          subst hd
          have hd : l2 = true := ready_nil (i := 2) hr rfl (by rfl)
          subst hd
          have hd : l3 = true := ready_nil (i := 3) hr rfl (by rfl)
          subst hd
          have hd : l4 = true := ready_nil (i := 4) hr rfl (by rfl)
          subst hd
          have hd : l5 = true := ready_nil (i := 5) hr rfl (by rfl)
          subst hd
          have hd : l6 = true := ready_nil (i := 6) hr rfl (by rfl)
          subst hd
          have hd : l7 = true := ready_nil (i := 7) hr rfl (by rfl)
          subst hd
          have hd : l8 = true := ready_nil (i := 8) hr rfl (by rfl)
          subst hd
          have hd : l9 = true := ready_nil (i := 9) hr rfl (by rfl)
          subst hd
          have hd : l10 = true := ready_nil (i := 10) hr rfl (by rfl)
          subst hd
          have hd : l11 = true := ready_nil (i := 11) hr rfl (by rfl)
          subst hd
          have hd : l12 = true := ready_nil (i := 12) hr rfl (by rfl)
          subst hd
          have hd : l13 = true := ready_nil (i := 13) hr rfl (by rfl)
          subst hd
          have hd : l14 = true := ready_nil (i := 14) hr rfl (by rfl)
          subst hd
          have hd : l15 = true := ready_nil (i := 15) hr rfl (by rfl)
          subst hd
          have hd : l16 = true := ready_nil (i := 16) hr rfl (by rfl)
          subst hd
          have hd : l17 = true := ready_nil (i := 17) hr rfl (by rfl)
          subst hd
          clear hr hc16 hc17
          simp only [putsA, Act.put, List.setIfInBounds_toArray, List.set_cons_zero, List.set_cons_succ, cond_true]
          replace h : Fr w w' [(w.heap.size, 52, sc A B M N), ((w.heap.size + 1), 52, sc D E G H), ((w.heap.size + 1 + 1), 52, sc 0 0 0 0), (g5, 24, ec n3), (g6, 24, ec n6), (g7, 24, ec n7), (g8, 24, ec n8), (g9, 24, ec n10), (g10, 24, ec n13)] := h
          go_upto_region 5 with fail
          try simp only [Act.put, List.setIfInBounds_toArray, List.set_cons_zero, List.set_cons_succ]
          replace h := h.drew
          refine wp_region_inv (by kernel_rfl) (fun a0 l b w' => ∃ (l0 l1 l2 l3 l4 l5 l6 l7 l8 l9 : Bool) (g11 g12 : Nat) , l = #[l0, l1, l2, l3, l4, l5, l6, l7, l8, l9] ∧ b = putsA a0 [(55, l0, .agg (ec n10).toArray, undef), (56, l1, .agg (ec n13).toArray, undef), (57, l2, .agg (ec n14).toArray, undef), (58, l3, .agg (ec n10).toArray, undef), (59, l4, .agg (ec n13).toArray, undef), (60, l5, .agg (ec n15).toArray, undef), (11, l6, .pointer (some ⟨g11, 0, none⟩), undef), (12, l7, .pointer (some ⟨g12, 0, none⟩), undef)] ∧ Fr w w' (opt [(true, (w.heap.size, 52, sc A B M N)), (true, ((w.heap.size + 1), 52, sc D E G H)), (true, ((w.heap.size + 1 + 1), 52, sc 0 0 0 0)), (true, (g5, 24, ec n3)), (true, (g6, 24, ec n6)), (true, (g7, 24, ec n7)), (true, (g8, 24, ec n8)), (true, (g9, 24, ec n10)), (true, (g10, 24, ec n13)), (l6, (g11, 24, bif l8 then ec n14 else ec 0)), (l7, (g12, 24, bif l9 then ec n15 else ec 0))]) ∧ (l8 = true → l6 = true) ∧ (l9 = true → l7 = true)) ?start ?step ?rest
          case start => exact ⟨false, false, false, false, false, false, false, false, false, false, 0, 0, by kernel_rfl, by kernel_rfl, h, (fun e => by cases e), (fun e => by cases e)⟩
          case step =>
            clear h
            intro l b w' hI i hi
            obtain ⟨l0, l1, l2, l3, l4, l5, l6, l7, l8, l9, g11, g12, rfl, rfl, h, hc8, hc9⟩ := hI
            have hlt : i < 10 := ready_lt hi
            obtain rfl | rfl | rfl | rfl | rfl | rfl | rfl | rfl | rfl | rfl := (by omega : i = 0 ∨ i = 1 ∨ i = 2 ∨ i = 3 ∨ i = 4 ∨ i = 5 ∨ i = 6 ∨ i = 7 ∨ i = 8 ∨ i = 9)
            · have hn : l0 = false := ready_not hi
              clear hi hlt
              subst hn
              refine wpOp_inv rfl rfl (fun K hK => ?_)
              simp only [putsA, Act.put, List.setIfInBounds_toArray, List.set_cons_zero, List.set_cons_succ, cond_false] at h ⊢
              refine wp_value (.agg (ec n10).toArray) (exec_load_W 24 _ rfl rfl (h.rowo (k := 7) rfl) Tryd.underlying24 rfl (ie4 _)) ?_
              exact hK.out _ _ ⟨true, l1, l2, l3, l4, l5, l6, l7, l8, l9, g11, g12, by kernel_rfl, by kernel_rfl, h, (by first | exact hc8 | exact fun _ => rfl | exact fun e => (by cases e)), (by first | exact hc9 | exact fun _ => rfl | exact fun e => (by cases e))⟩
            · have hn : l1 = false := ready_not hi
              clear hi hlt
              subst hn
              refine wpOp_inv rfl rfl (fun K hK => ?_)
              simp only [putsA, Act.put, List.setIfInBounds_toArray, List.set_cons_zero, List.set_cons_succ, cond_false] at h ⊢
              refine wp_value (.agg (ec n13).toArray) (exec_load_W 24 _ rfl rfl (h.rowo (k := 8) rfl) Tryd.underlying24 rfl (ie4 _)) ?_
              exact hK.out _ _ ⟨l0, true, l2, l3, l4, l5, l6, l7, l8, l9, g11, g12, by kernel_rfl, by kernel_rfl, h, (by first | exact hc8 | exact fun _ => rfl | exact fun e => (by cases e)), (by first | exact hc9 | exact fun _ => rfl | exact fun e => (by cases e))⟩
            · have hn : l2 = false := ready_not hi
              have hd0 : l0 = true := ready_dep hi rfl (k := 0) rfl rfl
              have hd1 : l1 = true := ready_dep hi rfl (k := 1) rfl rfl
              clear hi hlt
              subst hn hd0 hd1
              refine wpOp_inv rfl rfl (fun K hK => ?_)
              simp only [putsA, Act.put, List.setIfInBounds_toArray, List.set_cons_zero, List.set_cons_succ, cond_true, cond_false] at h ⊢
              go_simp
              refine (cn14 _ (hP.below h.bel)).mono ?_
              rintro _ wn ⟨rfl, hb⟩
              replace h := h.below hb
              clear hb
              exact hK.out _ _ ⟨true, true, true, l3, l4, l5, l6, l7, l8, l9, g11, g12, by kernel_rfl, by kernel_rfl, h, (by first | exact hc8 | exact fun _ => rfl | exact fun e => (by cases e)), (by first | exact hc9 | exact fun _ => rfl | exact fun e => (by cases e))⟩
            · have hn : l3 = false := ready_not hi
              clear hi hlt
              subst hn
              refine wpOp_inv rfl rfl (fun K hK => ?_)
              simp only [putsA, Act.put, List.setIfInBounds_toArray, List.set_cons_zero, List.set_cons_succ, cond_false] at h ⊢
              refine wp_value (.agg (ec n10).toArray) (exec_load_W 24 _ rfl rfl (h.rowo (k := 7) rfl) Tryd.underlying24 rfl (ie4 _)) ?_
              exact hK.out _ _ ⟨l0, l1, l2, true, l4, l5, l6, l7, l8, l9, g11, g12, by kernel_rfl, by kernel_rfl, h, (by first | exact hc8 | exact fun _ => rfl | exact fun e => (by cases e)), (by first | exact hc9 | exact fun _ => rfl | exact fun e => (by cases e))⟩
            · have hn : l4 = false := ready_not hi
              clear hi hlt
              subst hn
              refine wpOp_inv rfl rfl (fun K hK => ?_)
              simp only [putsA, Act.put, List.setIfInBounds_toArray, List.set_cons_zero, List.set_cons_succ, cond_false] at h ⊢
              refine wp_value (.agg (ec n13).toArray) (exec_load_W 24 _ rfl rfl (h.rowo (k := 8) rfl) Tryd.underlying24 rfl (ie4 _)) ?_
              exact hK.out _ _ ⟨l0, l1, l2, l3, true, l5, l6, l7, l8, l9, g11, g12, by kernel_rfl, by kernel_rfl, h, (by first | exact hc8 | exact fun _ => rfl | exact fun e => (by cases e)), (by first | exact hc9 | exact fun _ => rfl | exact fun e => (by cases e))⟩
            · have hn : l5 = false := ready_not hi
              have hd3 : l3 = true := ready_dep hi rfl (k := 0) rfl rfl
              have hd4 : l4 = true := ready_dep hi rfl (k := 1) rfl rfl
              have hd2 : l2 = true := ready_dep hi rfl (k := 2) rfl rfl
              clear hi hlt
              subst hn hd3 hd4 hd2
              refine wpOp_inv rfl rfl (fun K hK => ?_)
              simp only [putsA, Act.put, List.setIfInBounds_toArray, List.set_cons_zero, List.set_cons_succ, cond_true, cond_false] at h ⊢
              go_simp
              refine (cn15 _ (hP.below h.bel)).mono ?_
              rintro _ wn ⟨rfl, hb⟩
              replace h := h.below hb
              clear hb
              exact hK.out _ _ ⟨l0, l1, true, true, true, true, l6, l7, l8, l9, g11, g12, by kernel_rfl, by kernel_rfl, h, (by first | exact hc8 | exact fun _ => rfl | exact fun e => (by cases e)), (by first | exact hc9 | exact fun _ => rfl | exact fun e => (by cases e))⟩
            · have hn : l6 = false := ready_not hi
              clear hi hlt
              subst hn
              obtain rfl : l8 = false := by cases l8 with | false => rfl | true => exact absurd (hc8 rfl) (by decide)
              refine wpOp_inv rfl rfl (fun K hK => ?_)
              simp only [putsA, Act.put, List.setIfInBounds_toArray, List.set_cons_zero, List.set_cons_succ, cond_false] at h ⊢
              refine wp_alloc_R 24 rfl (ec 0) z4w ?_
              obtain ⟨gn, hgq, hq⟩ := h.on (k := 9) rfl 24 (ec 0)
              rw [hgq]
              exact hK.out _ _ ⟨l0, l1, l2, l3, l4, l5, true, l7, false, l9, gn, g12, by kernel_rfl, by kernel_rfl, hq, (by first | exact hc8 | exact fun _ => rfl | exact fun e => (by cases e)), (by first | exact hc9 | exact fun _ => rfl | exact fun e => (by cases e))⟩
            · have hn : l7 = false := ready_not hi
              clear hi hlt
              subst hn
              obtain rfl : l9 = false := by cases l9 with | false => rfl | true => exact absurd (hc9 rfl) (by decide)
              refine wpOp_inv rfl rfl (fun K hK => ?_)
              simp only [putsA, Act.put, List.setIfInBounds_toArray, List.set_cons_zero, List.set_cons_succ, cond_false] at h ⊢
              refine wp_alloc_R 24 rfl (ec 0) z4w ?_
              obtain ⟨gn, hgq, hq⟩ := h.on (k := 10) rfl 24 (ec 0)
              rw [hgq]
              exact hK.out _ _ ⟨l0, l1, l2, l3, l4, l5, l6, true, l8, false, g11, gn, by kernel_rfl, by kernel_rfl, hq, (by first | exact hc8 | exact fun _ => rfl | exact fun e => (by cases e)), (by first | exact hc9 | exact fun _ => rfl | exact fun e => (by cases e))⟩
            · have hn : l8 = false := ready_not hi
              have hd6 : l6 = true := ready_dep hi rfl (k := 0) rfl rfl
              have hd2 : l2 = true := ready_dep hi rfl (k := 1) rfl rfl
              have hd5 : l5 = true := ready_dep hi rfl (k := 2) rfl rfl
              have hd0 : l0 = true := ready_dep hi rfl (k := 3) rfl rfl
              have hd1 : l1 = true := ready_dep hi rfl (k := 4) rfl rfl
              have hd7 : l7 = true := ready_dep hi rfl (k := 10) rfl rfl
              clear hi hlt
              subst hn hd6 hd2 hd5 hd0 hd1 hd7
              refine wpOp_inv rfl rfl (fun K hK => ?_)
              simp only [putsA, Act.put, List.setIfInBounds_toArray, List.set_cons_zero, List.set_cons_succ, cond_true, cond_false] at h ⊢
              refine wp_store_R 24 _ _ rfl _ (ec n14) rfl rfl (h.rowo (k := 9) rfl) (ie4 _) rfl (ec_all _) ?_
              intro wz q hg hz
              replace h := h.puto (k := 9) rfl q hg
              exact hK.out _ _ ⟨true, true, true, l3, l4, true, true, true, true, l9, g11, g12, by kernel_rfl, by kernel_rfl, h, (by first | exact hc8 | exact fun _ => rfl | exact fun e => (by cases e)), (by first | exact hc9 | exact fun _ => rfl | exact fun e => (by cases e))⟩
            · have hn : l9 = false := ready_not hi
              have hd7 : l7 = true := ready_dep hi rfl (k := 0) rfl rfl
              have hd5 : l5 = true := ready_dep hi rfl (k := 1) rfl rfl
              have hd8 : l8 = true := ready_dep hi rfl (k := 2) rfl rfl
              have hd0 : l0 = true := ready_dep hi rfl (k := 3) rfl rfl
              have hd1 : l1 = true := ready_dep hi rfl (k := 4) rfl rfl
              have hd2 : l2 = true := ready_dep hi rfl (k := 5) rfl rfl
              have hd3 : l3 = true := ready_dep hi rfl (k := 6) rfl rfl
              have hd4 : l4 = true := ready_dep hi rfl (k := 7) rfl rfl
              have hd6 : l6 = true := ready_dep hi rfl (k := 9) rfl rfl
              clear hi hlt
              subst hn hd7 hd5 hd8 hd0 hd1 hd2 hd3 hd4 hd6
              refine wpOp_inv rfl rfl (fun K hK => ?_)
              simp only [putsA, Act.put, List.setIfInBounds_toArray, List.set_cons_zero, List.set_cons_succ, cond_true, cond_false] at h ⊢
              refine wp_store_R 24 _ _ rfl _ (ec n15) rfl rfl (h.rowo (k := 10) rfl) (ie4 _) rfl (ec_all _) ?_
              intro wz q hg hz
              replace h := h.puto (k := 10) rfl q hg
              exact hK.out _ _ ⟨true, true, true, true, true, true, true, true, true, true, g11, g12, by kernel_rfl, by kernel_rfl, h, (by first | exact hc8 | exact fun _ => rfl | exact fun e => (by cases e)), (by first | exact hc9 | exact fun _ => rfl | exact fun e => (by cases e))⟩
          case rest =>
            clear h
            intro l b w' hI hr
            obtain ⟨l0, l1, l2, l3, l4, l5, l6, l7, l8, l9, g11, g12, rfl, rfl, h, hc8, hc9⟩ := hI
            have hd : l0 = true := ready_nil (i := 0) hr rfl (by rfl)
            subst hd
            have hd : l1 = true := ready_nil (i := 1) hr rfl (by rfl)
            subst hd
            have hd : l2 = true := ready_nil (i := 2) hr rfl (by rfl)
            subst hd
            have hd : l3 = true := ready_nil (i := 3) hr rfl (by rfl)
            subst hd
            have hd : l4 = true := ready_nil (i := 4) hr rfl (by rfl)
            subst hd
            have hd : l5 = true := ready_nil (i := 5) hr rfl (by rfl)
            subst hd
            have hd : l6 = true := ready_nil (i := 6) hr rfl (by rfl)
            subst hd
            have hd : l7 = true := ready_nil (i := 7) hr rfl (by rfl)
            subst hd
            have hd : l8 = true := ready_nil (i := 8) hr rfl (by rfl)
            subst hd
            have hd : l9 = true := ready_nil (i := 9) hr rfl (by rfl)
            subst hd
            clear hr hc8 hc9
            simp only [putsA, Act.put, List.setIfInBounds_toArray, List.set_cons_zero, List.set_cons_succ, cond_true]
            replace h : Fr w w' [(w.heap.size, 52, sc A B M N), ((w.heap.size + 1), 52, sc D E G H), ((w.heap.size + 1 + 1), 52, sc 0 0 0 0), (g5, 24, ec n3), (g6, 24, ec n6), (g7, 24, ec n7), (g8, 24, ec n8), (g9, 24, ec n10), (g10, 24, ec n13), (g11, 24, ec n14), (g12, 24, ec n15)] := h
            go_upto_region 6 with fail
            try simp only [Act.put, List.setIfInBounds_toArray, List.set_cons_zero, List.set_cons_succ]
            replace h := h.drew
            refine wp_region_inv (by kernel_rfl) (fun a0 l b w' => ∃ (l0 l1 l2 l3 l4 l5 l6 l7 l8 l9 l10 l11 l12 l13 : Bool) , l = #[l0, l1, l2, l3, l4, l5, l6, l7, l8, l9, l10, l11, l12, l13] ∧ b = putsA a0 [(61, l0, .agg (ec n7).toArray, undef), (62, l1, .agg (ec n15).toArray, undef), (63, l2, .agg (ec n16).toArray, undef), (64, l3, .agg (ec n8).toArray, undef), (65, l4, .agg (ec n14).toArray, undef), (66, l5, .agg (ec n17).toArray, undef), (67, l6, .agg (ec n7).toArray, undef), (68, l7, .agg (ec n8).toArray, undef), (69, l8, .agg (ec n18).toArray, undef), (70, l9, .agg (ec n14).toArray, undef), (71, l10, .agg (ec n15).toArray, undef), (72, l11, .agg (ec n19).toArray, undef), (73, l12, .agg (sc n16 n17 n18 n19).toArray, undef)] ∧ Fr w w' (opt [(true, (w.heap.size, 52, sc A B M N)), (true, ((w.heap.size + 1), 52, sc D E G H)), (true, ((w.heap.size + 1 + 1), 52, bif l13 then sc n16 n17 n18 n19 else sc 0 0 0 0)), (true, (g5, 24, ec n3)), (true, (g6, 24, ec n6)), (true, (g7, 24, ec n7)), (true, (g8, 24, ec n8)), (true, (g9, 24, ec n10)), (true, (g10, 24, ec n13)), (true, (g11, 24, ec n14)), (true, (g12, 24, ec n15))])) ?start ?step ?rest
            case start => exact ⟨false, false, false, false, false, false, false, false, false, false, false, false, false, false, by kernel_rfl, by kernel_rfl, h⟩
            case step =>
              clear h
              intro l b w' hI i hi
              obtain ⟨l0, l1, l2, l3, l4, l5, l6, l7, l8, l9, l10, l11, l12, l13, rfl, rfl, h⟩ := hI
              have hlt : i < 14 := ready_lt hi
              obtain rfl | rfl | rfl | rfl | rfl | rfl | rfl | rfl | rfl | rfl | rfl | rfl | rfl | rfl := (by omega : i = 0 ∨ i = 1 ∨ i = 2 ∨ i = 3 ∨ i = 4 ∨ i = 5 ∨ i = 6 ∨ i = 7 ∨ i = 8 ∨ i = 9 ∨ i = 10 ∨ i = 11 ∨ i = 12 ∨ i = 13)
              · have hn : l0 = false := ready_not hi
                clear hi hlt
                subst hn
                refine wpOp_inv rfl rfl (fun K hK => ?_)
                simp only [putsA, Act.put, List.setIfInBounds_toArray, List.set_cons_zero, List.set_cons_succ, cond_false] at h ⊢
                refine wp_value (.agg (ec n7).toArray) (exec_load_W 24 _ rfl rfl (h.rowo (k := 5) rfl) Tryd.underlying24 rfl (ie4 _)) ?_
                exact hK.out _ _ ⟨true, l1, l2, l3, l4, l5, l6, l7, l8, l9, l10, l11, l12, l13, by kernel_rfl, by kernel_rfl, h⟩
              · have hn : l1 = false := ready_not hi
                clear hi hlt
                subst hn
                refine wpOp_inv rfl rfl (fun K hK => ?_)
                simp only [putsA, Act.put, List.setIfInBounds_toArray, List.set_cons_zero, List.set_cons_succ, cond_false] at h ⊢
                refine wp_value (.agg (ec n15).toArray) (exec_load_W 24 _ rfl rfl (h.rowo (k := 10) rfl) Tryd.underlying24 rfl (ie4 _)) ?_
                exact hK.out _ _ ⟨l0, true, l2, l3, l4, l5, l6, l7, l8, l9, l10, l11, l12, l13, by kernel_rfl, by kernel_rfl, h⟩
              · have hn : l2 = false := ready_not hi
                have hd0 : l0 = true := ready_dep hi rfl (k := 0) rfl rfl
                have hd1 : l1 = true := ready_dep hi rfl (k := 1) rfl rfl
                clear hi hlt
                subst hn hd0 hd1
                refine wpOp_inv rfl rfl (fun K hK => ?_)
                simp only [putsA, Act.put, List.setIfInBounds_toArray, List.set_cons_zero, List.set_cons_succ, cond_true, cond_false] at h ⊢
                go_simp
                refine (cn16 _ (hP.below h.bel)).mono ?_
                rintro _ wn ⟨rfl, hb⟩
                replace h := h.below hb
                clear hb
                exact hK.out _ _ ⟨true, true, true, l3, l4, l5, l6, l7, l8, l9, l10, l11, l12, l13, by kernel_rfl, by kernel_rfl, h⟩
              · have hn : l3 = false := ready_not hi
                clear hi hlt
                subst hn
                refine wpOp_inv rfl rfl (fun K hK => ?_)
                simp only [putsA, Act.put, List.setIfInBounds_toArray, List.set_cons_zero, List.set_cons_succ, cond_false] at h ⊢
                refine wp_value (.agg (ec n8).toArray) (exec_load_W 24 _ rfl rfl (h.rowo (k := 6) rfl) Tryd.underlying24 rfl (ie4 _)) ?_
                exact hK.out _ _ ⟨l0, l1, l2, true, l4, l5, l6, l7, l8, l9, l10, l11, l12, l13, by kernel_rfl, by kernel_rfl, h⟩
              · have hn : l4 = false := ready_not hi
                clear hi hlt
                subst hn
                refine wpOp_inv rfl rfl (fun K hK => ?_)
                simp only [putsA, Act.put, List.setIfInBounds_toArray, List.set_cons_zero, List.set_cons_succ, cond_false] at h ⊢
                refine wp_value (.agg (ec n14).toArray) (exec_load_W 24 _ rfl rfl (h.rowo (k := 9) rfl) Tryd.underlying24 rfl (ie4 _)) ?_
                exact hK.out _ _ ⟨l0, l1, l2, l3, true, l5, l6, l7, l8, l9, l10, l11, l12, l13, by kernel_rfl, by kernel_rfl, h⟩
              · have hn : l5 = false := ready_not hi
                have hd3 : l3 = true := ready_dep hi rfl (k := 0) rfl rfl
                have hd4 : l4 = true := ready_dep hi rfl (k := 1) rfl rfl
                have hd2 : l2 = true := ready_dep hi rfl (k := 2) rfl rfl
                clear hi hlt
                subst hn hd3 hd4 hd2
                refine wpOp_inv rfl rfl (fun K hK => ?_)
                simp only [putsA, Act.put, List.setIfInBounds_toArray, List.set_cons_zero, List.set_cons_succ, cond_true, cond_false] at h ⊢
                go_simp
                refine (cn17 _ (hP.below h.bel)).mono ?_
                rintro _ wn ⟨rfl, hb⟩
                replace h := h.below hb
                clear hb
                exact hK.out _ _ ⟨l0, l1, true, true, true, true, l6, l7, l8, l9, l10, l11, l12, l13, by kernel_rfl, by kernel_rfl, h⟩
              · have hn : l6 = false := ready_not hi
                clear hi hlt
                subst hn
                refine wpOp_inv rfl rfl (fun K hK => ?_)
                simp only [putsA, Act.put, List.setIfInBounds_toArray, List.set_cons_zero, List.set_cons_succ, cond_false] at h ⊢
                refine wp_value (.agg (ec n7).toArray) (exec_load_W 24 _ rfl rfl (h.rowo (k := 5) rfl) Tryd.underlying24 rfl (ie4 _)) ?_
                exact hK.out _ _ ⟨l0, l1, l2, l3, l4, l5, true, l7, l8, l9, l10, l11, l12, l13, by kernel_rfl, by kernel_rfl, h⟩
              · have hn : l7 = false := ready_not hi
                clear hi hlt
                subst hn
                refine wpOp_inv rfl rfl (fun K hK => ?_)
                simp only [putsA, Act.put, List.setIfInBounds_toArray, List.set_cons_zero, List.set_cons_succ, cond_false] at h ⊢
                refine wp_value (.agg (ec n8).toArray) (exec_load_W 24 _ rfl rfl (h.rowo (k := 6) rfl) Tryd.underlying24 rfl (ie4 _)) ?_
                exact hK.out _ _ ⟨l0, l1, l2, l3, l4, l5, l6, true, l8, l9, l10, l11, l12, l13, by kernel_rfl, by kernel_rfl, h⟩
              · have hn : l8 = false := ready_not hi
                have hd6 : l6 = true := ready_dep hi rfl (k := 0) rfl rfl
                have hd7 : l7 = true := ready_dep hi rfl (k := 1) rfl rfl
                have hd5 : l5 = true := ready_dep hi rfl (k := 2) rfl rfl
                clear hi hlt
                subst hn hd6 hd7 hd5
                refine wpOp_inv rfl rfl (fun K hK => ?_)
                simp only [putsA, Act.put, List.setIfInBounds_toArray, List.set_cons_zero, List.set_cons_succ, cond_true, cond_false] at h ⊢
                go_simp
                refine (cn18 _ (hP.below h.bel)).mono ?_
                rintro _ wn ⟨rfl, hb⟩
                replace h := h.below hb
                clear hb
                exact hK.out _ _ ⟨l0, l1, l2, l3, l4, true, true, true, true, l9, l10, l11, l12, l13, by kernel_rfl, by kernel_rfl, h⟩
              · have hn : l9 = false := ready_not hi
                clear hi hlt
                subst hn
                refine wpOp_inv rfl rfl (fun K hK => ?_)
                simp only [putsA, Act.put, List.setIfInBounds_toArray, List.set_cons_zero, List.set_cons_succ, cond_false] at h ⊢
                refine wp_value (.agg (ec n14).toArray) (exec_load_W 24 _ rfl rfl (h.rowo (k := 9) rfl) Tryd.underlying24 rfl (ie4 _)) ?_
                exact hK.out _ _ ⟨l0, l1, l2, l3, l4, l5, l6, l7, l8, true, l10, l11, l12, l13, by kernel_rfl, by kernel_rfl, h⟩
              · have hn : l10 = false := ready_not hi
                clear hi hlt
                subst hn
                refine wpOp_inv rfl rfl (fun K hK => ?_)
                simp only [putsA, Act.put, List.setIfInBounds_toArray, List.set_cons_zero, List.set_cons_succ, cond_false] at h ⊢
                refine wp_value (.agg (ec n15).toArray) (exec_load_W 24 _ rfl rfl (h.rowo (k := 10) rfl) Tryd.underlying24 rfl (ie4 _)) ?_
                exact hK.out _ _ ⟨l0, l1, l2, l3, l4, l5, l6, l7, l8, l9, true, l11, l12, l13, by kernel_rfl, by kernel_rfl, h⟩
              · have hn : l11 = false := ready_not hi
                have hd9 : l9 = true := ready_dep hi rfl (k := 0) rfl rfl
                have hd10 : l10 = true := ready_dep hi rfl (k := 1) rfl rfl
                have hd8 : l8 = true := ready_dep hi rfl (k := 2) rfl rfl
                clear hi hlt
                subst hn hd9 hd10 hd8
                refine wpOp_inv rfl rfl (fun K hK => ?_)
                simp only [putsA, Act.put, List.setIfInBounds_toArray, List.set_cons_zero, List.set_cons_succ, cond_true, cond_false] at h ⊢
                go_simp
                refine (cn19 _ (hP.below h.bel)).mono ?_
                rintro _ wn ⟨rfl, hb⟩
                replace h := h.below hb
                clear hb
                exact hK.out _ _ ⟨l0, l1, l2, l3, l4, l5, l6, l7, true, true, true, true, l12, l13, by kernel_rfl, by kernel_rfl, h⟩
              · have hn : l12 = false := ready_not hi
                have hd2 : l2 = true := ready_dep hi rfl (k := 0) rfl rfl
                have hd5 : l5 = true := ready_dep hi rfl (k := 1) rfl rfl
                have hd8 : l8 = true := ready_dep hi rfl (k := 2) rfl rfl
                have hd11 : l11 = true := ready_dep hi rfl (k := 3) rfl rfl
                clear hi hlt
                subst hn hd2 hd5 hd8 hd11
                refine wpOp_inv rfl rfl (fun K hK => ?_)
                simp only [putsA, Act.put, List.setIfInBounds_toArray, List.set_cons_zero, List.set_cons_succ, cond_true, cond_false] at h ⊢
                refine wp_value (.agg (sc n16 n17 n18 n19).toArray) (exec_build_C 52 _ rfl (sc n16 n17 n18 n19) (by kernel_rfl)) ?_
                exact hK.out _ _ ⟨l0, l1, true, l3, l4, true, l6, l7, true, l9, l10, true, true, l13, by kernel_rfl, by kernel_rfl, h⟩
              · have hn : l13 = false := ready_not hi
                have hd12 : l12 = true := ready_dep hi rfl (k := 0) rfl rfl
                have hd11 : l11 = true := ready_dep hi rfl (k := 1) rfl rfl
                have hd0 : l0 = true := ready_dep hi rfl (k := 2) rfl rfl
                have hd1 : l1 = true := ready_dep hi rfl (k := 3) rfl rfl
                have hd2 : l2 = true := ready_dep hi rfl (k := 4) rfl rfl
                have hd3 : l3 = true := ready_dep hi rfl (k := 5) rfl rfl
                have hd4 : l4 = true := ready_dep hi rfl (k := 6) rfl rfl
                have hd5 : l5 = true := ready_dep hi rfl (k := 7) rfl rfl
                have hd6 : l6 = true := ready_dep hi rfl (k := 8) rfl rfl
                have hd7 : l7 = true := ready_dep hi rfl (k := 9) rfl rfl
                have hd8 : l8 = true := ready_dep hi rfl (k := 10) rfl rfl
                have hd9 : l9 = true := ready_dep hi rfl (k := 11) rfl rfl
                have hd10 : l10 = true := ready_dep hi rfl (k := 12) rfl rfl
                clear hi hlt
                subst hn hd12 hd11 hd0 hd1 hd2 hd3 hd4 hd5 hd6 hd7 hd8 hd9 hd10
                refine wpOp_inv rfl rfl (fun K hK => ?_)
                simp only [putsA, Act.put, List.setIfInBounds_toArray, List.set_cons_zero, List.set_cons_succ, cond_true, cond_false] at h ⊢
                refine wp_store_R 52 _ _ rfl _ (sc n16 n17 n18 n19) rfl rfl (h.rowo (k := 2) rfl) (iS _ _ _ _) rfl (sc_all _ _ _ _) ?_
                intro wz q hg hz
                replace h := h.puto (k := 2) rfl q hg
                exact hK.out _ _ ⟨true, true, true, true, true, true, true, true, true, true, true, true, true, true, by kernel_rfl, by kernel_rfl, h⟩
            case rest =>
              clear h
              intro l b w' hI hr
              obtain ⟨l0, l1, l2, l3, l4, l5, l6, l7, l8, l9, l10, l11, l12, l13, rfl, rfl, h⟩ := hI
              have hd : l0 = true := ready_nil (i := 0) hr rfl (by rfl)
              subst hd
              have hd : l1 = true := ready_nil (i := 1) hr rfl (by rfl)
              subst hd
              have hd : l2 = true := ready_nil (i := 2) hr rfl (by rfl)
              subst hd
              have hd : l3 = true := ready_nil (i := 3) hr rfl (by rfl)
              subst hd
              have hd : l4 = true := ready_nil (i := 4) hr rfl (by rfl)
              subst hd
              have hd : l5 = true := ready_nil (i := 5) hr rfl (by rfl)
              subst hd
              have hd : l6 = true := ready_nil (i := 6) hr rfl (by rfl)
              subst hd
              have hd : l7 = true := ready_nil (i := 7) hr rfl (by rfl)
              subst hd
              have hd : l8 = true := ready_nil (i := 8) hr rfl (by rfl)
              subst hd
              have hd : l9 = true := ready_nil (i := 9) hr rfl (by rfl)
              subst hd
              have hd : l10 = true := ready_nil (i := 10) hr rfl (by rfl)
              subst hd
              have hd : l11 = true := ready_nil (i := 11) hr rfl (by rfl)
              subst hd
              have hd : l12 = true := ready_nil (i := 12) hr rfl (by rfl)
              subst hd
              have hd : l13 = true := ready_nil (i := 13) hr rfl (by rfl)
              subst hd
              clear hr
              simp only [putsA, Act.put, List.setIfInBounds_toArray, List.set_cons_zero, List.set_cons_succ, cond_true]
              replace h : Fr w w' [(w.heap.size, 52, sc A B M N), ((w.heap.size + 1), 52, sc D E G H), ((w.heap.size + 1 + 1), 52, sc n16 n17 n18 n19), (g5, 24, ec n3), (g6, 24, ec n6), (g7, 24, ec n7), (g8, 24, ec n8), (g9, 24, ec n10), (g10, 24, ec n13), (g11, 24, ec n14), (g12, 24, ec n15)] := h
              go_wp2
              exact result_row Tryd.results49 rfl (h.row (i := 2) rfl) Tryd.underlying52 rfl (iS _ _ _ _) rfl ⟨⟨_, _, _, _, rfl, ln16, ln17, ln18, ln19, HV.out⟩, h.bel⟩
end Go.Proofs.YthjlbcbkllaicaaDoor.F
