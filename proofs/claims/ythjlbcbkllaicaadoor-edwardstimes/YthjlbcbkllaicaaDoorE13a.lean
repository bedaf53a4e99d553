/-
  Texts joined:  EdP EdA EdQ EdB
-/
import Derived.Test.YthjlbcbkllaicaaDoorK13
import Derived.Test.YthjlbcbkllaicaaDoorF13d
import Derived.Test.YthjlbcbkllaicaaDoorM13
namespace Go.Proofs.YthjlbcbkllaicaaDoor.F
open Go.RowKit
set_option linter.unusedVariables false
set_option maxRecDepth 10000

/-- The cells of a number, of a point, of a fraction. -/
abbrev ec (A : Nat) : List Value := C .u64 (wds A)
def pc (A B : Nat) : List Value := ec A ++ ec B
def fc (A B K : Nat) : List Value := ec A ++ (ec B ++ ec K)
theorem pc_length (A B : Nat) : (pc A B).length = 8 := rfl
theorem fc_length (A B K : Nat) : (fc A B K).length = 12 := rfl
theorem ec_all (A : Nat) : (ec A).all (·.oneCell') = true := C_allL _ _
theorem pc_all (A B : Nat) : (pc A B).all (·.oneCell') = true := by unfold pc; rw [List.all_append, ec_all, ec_all]; rfl
theorem fc_all (A B K : Nat) : (fc A B K).all (·.oneCell') = true := by unfold fc; rw [List.all_append, List.all_append, ec_all, ec_all, ec_all]; rfl
theorem z4w (w : World) : (zeroValue 24).run Tryd.prog w = .ok (.agg (ec 0).toArray) w := by kernel_rfl
theorem zPw (w : World) : (zeroValue 26).run Tryd.prog w = .ok (.agg (pc 0 0).toArray) w := by kernel_rfl
theorem iP (A B : Nat) : (Tryd.prog.info? 26).map (·.size) = some (pc A B).length := by rw [pc_length]; kernel_rfl
theorem uP : ∃ l, Tryd.prog.underlying 26 = some (.struct l) := ⟨_, Tryd.underlying26⟩
theorem bPt (A B : Nat) : Tryd.prog.built 26 [(0, .agg (ec A).toArray), (1, .agg (ec B).toArray)] = some (pc A B).toArray := by kernel_rfl
theorem bPt1 (B : Nat) : Tryd.prog.built 26 [(1, .agg (ec B).toArray)] = some (pc 0 B).toArray := by kernel_rfl
theorem zFw (w : World) : (zeroValue 56).run Tryd.prog w = .ok (.agg (fc 0 0 0).toArray) w := by kernel_rfl
theorem iF (A B K : Nat) : (Tryd.prog.info? 56).map (·.size) = some (fc A B K).length := by rw [fc_length]; kernel_rfl
theorem bFr (A B K : Nat) : Tryd.prog.built 56 [(0, .agg (ec A).toArray), (1, .agg (ec B).toArray), (2, .agg (ec K).toArray)] = some (fc A B K).toArray := by kernel_rfl
theorem bFr1 (B K : Nat) : Tryd.prog.built 56 [(1, .agg (ec B).toArray), (2, .agg (ec K).toArray)] = some (fc 0 B K).toArray := by kernel_rfl

/-- A part of a block loaded. -/
theorem pc_x {w : World} {g : Nat} {t : TypeId} {A B : Nat} (h : Row w g t (pc A B)) : Row w g t ([] ++ (ec A ++ ec B)) := h
theorem pc_y {w : World} {g : Nat} {t : TypeId} {A B : Nat} (h : Row w g t (pc A B)) : Row w g t (ec A ++ (ec B ++ [])) := by rw [List.append_nil]; exact h
theorem fc_x {w : World} {g : Nat} {t : TypeId} {A B K : Nat} (h : Row w g t (fc A B K)) : Row w g t ([] ++ (ec A ++ (ec B ++ ec K))) := h
theorem fc_y {w : World} {g : Nat} {t : TypeId} {A B K : Nat} (h : Row w g t (fc A B K)) : Row w g t (ec A ++ (ec B ++ ec K)) := h
theorem fc_z {w : World} {g : Nat} {t : TypeId} {A B K : Nat} (h : Row w g t (fc A B K)) : Row w g t ((ec A ++ ec B) ++ (ec K ++ [])) := by rw [List.append_nil, List.append_assoc]; exact h
/-- A whole struct or array loaded, in a region that draws its order. -/
theorem exec_load_W {P : Program} {w : World} {o : Oper} {ev : Operand → Value} (ty : TypeId) (x : Operand) (ho : o.op = .load ty x) {g : Nat} (hx : ev x = .pointer (some ⟨g, 0, none⟩)) {e : TypeId} {us : List Value} (hg : Row w g e us) {d : TypeDesc}
    (hu : P.underlying ty = some d) (hd : (match d with | .struct _ | .array _ _ => true | _ => false) = true) (hi : (P.info? ty).map (·.size) = some us.length) : (execOp ev o).run P w = .ok (.value (.agg us.toArray)) w := by
  have h := run_loadVar_row (P := P) w g e ty us.toArray (0, 0) _ hg hu hd (by simpa using hi)
  unfold execOp
  simp only [ho, hx, Instr.loadAt, Instr.sureAddr, Sem.run_bind, Sem.run_pure, Result.andThen_ok, h]
/-- An array or a struct built, in a region that draws its order. -/
theorem exec_build_C {P : Program} {w : World} {o : Oper} {ev : Operand → Value} (t : TypeId) (parts : Array (Nat × Operand)) (ho : o.op = .build t parts) (us : List Value)
    (hz : P.built t (parts.map fun (i, x) => (i, ev x)).toList = some us.toArray) : (execOp ev o).run P w = .ok (.value (.agg us.toArray)) w := by
  unfold execOp
  simp only [ho, Sem.run_bind, run_build w t _ us.toArray hz, Result.andThen_ok]
  rfl
/-- A guarded operation that is not wanted. -/
theorem wpAnyH_skipL {P : Program} {L : List Oper} {Q : Exit → Act → World → Prop} {md : Region.Mode} {S : World → Prop} {i : Nat} {oi : Oper} {fuel : Nat} {listed : Array Bool} {a : Act} {w : World} (hi : L[i]? = some oi)
    (hs : Region.noSelect L.toArray = true) (hf : Region.free md L.toArray listed i = true) (hr : (Region.ready md L.toArray listed).contains i = true)
    (hQ : ∀ c a w, Q (.panic c) (a.put oi.dst undef) w → Q (.panic c) a w) (hw : Region.wanted oi (yielded L.toArray a.tmps) = false) (hS : S w)
    (h : wpAnyH P md L.toArray Q S fuel (listed.setIfInBounds i true) (a.put oi.dst undef) w) : wpAnyH P md L.toArray Q S (fuel + 1) listed a w :=
  wpAnyH_take (getL hi) hs hf hr hQ (.inr ⟨hw, rfl⟩) hS h
end Go.Proofs.YthjlbcbkllaicaaDoor.F
namespace Go.Proofs.YthjlbcbkllaicaaDoor.F
open Go.RowKit
set_option linter.unusedVariables false
set_option maxRecDepth 10000

/-- The curve's number. -/
def Dn : Nat := 37095705934669439343138083508754565189542113879843219016388785533085940283555
theorem lDn : Dn < 115792089237316195423570985008687907853269984665640564039457584007913129639936 := by decide
theorem bDn : Tryd.prog.built 24 [(0, .int .u64 8496970652267935907), (1, .int .u64 31536524315187371), (2, .int .u64 10144147576115030168), (3, .int .u64 5909686906226998899)] = some (ec Dn).toArray := by kernel_rfl
theorem d13_any (w : World) : Calls Tryd.prog 31 #[] w fun e w' => e = .returned (.agg (ec Dn).toArray) ∧ Below w.heap.size w w' := by
  have h := Fr.one w 24 (ec 0)
  go_enter Tryd.func31, Tryd.ntmps31
  go_wp2_with (first | refine wpList_alloc_row rfl 24 rfl _ z4w ?_ | refine wpList_build_C rfl 24 _ rfl _ bDn ?_ | (refine wpList_store_R rfl 24 _ _ rfl _ (ec Dn) rfl rfl (h.row (i := 0) rfl) (ie4 _) rfl (ec_all _) ?_; intro wz q hg hz))
  replace h : Fr w wz [(w.heap.size, 24, ec Dn)] := h.put (i := 0) rfl q hg
  exact result_row Tryd.results31 rfl (h.row (i := 0) rfl) Tryd.underlying24 rfl (ie4 _) rfl ⟨rfl, h.bel⟩
theorem zero13_any (w : World) : Calls Tryd.prog 19 #[] w fun e w' => e = .returned (.agg (pc 0 1).toArray) ∧ Below w.heap.size w w' := by
  have h := Fr.one w 26 (pc 0 0)
  go_enter Tryd.func19, Tryd.ntmps19
  go_wp2_with (first | refine wpList_alloc_row rfl 26 rfl _ zPw ?_ | refine wpList_build_C rfl 24 _ rfl _ (show Tryd.prog.built 24 [(0, .int .u64 1)] = some (ec 1).toArray by kernel_rfl) ?_ | refine wpList_build_C rfl 26 _ rfl _ (bPt1 1) ?_ | (refine wpList_store_R rfl 26 _ _ rfl _ (pc 0 1) rfl rfl (h.row (i := 0) rfl) (iP _ _) rfl (pc_all _ _) ?_; intro wz q hg hz))
  replace h : Fr w wz [(w.heap.size, 26, pc 0 1)] := h.put (i := 0) rfl q hg
  exact result_row Tryd.results19 rfl (h.row (i := 0) rfl) Tryd.underlying26 rfl (iP _ _) rfl ⟨rfl, h.bel⟩

theorem below13_any (A : Nat) (hA : A < 115792089237316195423570985008687907853269984665640564039457584007913129639936) (w : World) : Calls Tryd.prog 39 #[.agg (ec A).toArray] w fun e w' => e = .returned (.bool (decide (A < P))) ∧ Below w.heap.size w w' := by
  have h := Fr.one w 24 (ec A)
  have c1 := fun w => refreduce_el A hA w
  have hq := fun w => eq4 w (A % P) A (mod_lt_T _) hA
  obtain ⟨ov, hov⟩ : ∃ ov, decide (A < P) = ov := ⟨_, rfl⟩
  rw [show decide (A % P = A) = ov by rw [← hov, decide_eq_decide]; exact ⟨fun e => by have := mod_lt_P A; omega, fun e => Nat.mod_eq_of_lt e⟩] at hq
  rw [hov]
  clear hov
  generalize A % P = R at *
  go_enter Tryd.func39, Tryd.ntmps39
  go_upto_region 1 with fail
  replace h := h.drew
  refine wp_region_noPanic ?_
  refine wp_region_held_drew (S := fun w' => Row w' w.heap.size 24 (ec A)) (by kernel_rfl) (h.row (i := 0) rfl) (fun hHeld => ?_)
  refine wpAnyH_takeL (i := 0) (v := (.agg (ec A).toArray)) rfl (by kernel_rfl) (by kernel_rfl) (by kernel_rfl) (fun _ _ _ h => h) (by rfl) ?ht1 (by assumption) ?_
  case ht1 => intro w hSw; exact exec_load_W 24 _ rfl rfl hSw Tryd.underlying24 rfl (ie4 _)
  simp only [Act.put, List.setIfInBounds_toArray, List.set_cons_zero, List.set_cons_succ]
  refine wpAnyH_takeL (i := 2) (v := (.agg (ec A).toArray)) rfl (by kernel_rfl) (by kernel_rfl) (by kernel_rfl) (fun _ _ _ h => h) (by rfl) ?ht2 (by assumption) ?_
  case ht2 => intro w hSw; exact exec_load_W 24 _ rfl rfl hSw Tryd.underlying24 rfl (ie4 _)
  simp only [Act.put, List.setIfInBounds_toArray, List.set_cons_zero, List.set_cons_succ]
  refine allReadyH_oneL (i := 1) (by kernel_rfl) rfl (by rfl) (fun K hK => ?_)
  go_simp
  refine (c1 _).mono ?_
  rintro _ wn ⟨rfl, hb⟩
  replace h := h.below hb
  clear hb
  refine hK.out _ _ (h.row (i := 0) rfl) (fun hHeld => ?_)
  clear hK K
  refine wpAnyH_takeL (i := 3) (v := ?vt3) rfl (by kernel_rfl) (by kernel_rfl) (by kernel_rfl) (fun _ _ _ h => h) (by rfl) ?ht3 (by assumption) ?_
  case ht3 => intro w hSw; go_simp <;> with_reducible rfl
  simp only [Act.put, List.setIfInBounds_toArray, List.set_cons_zero, List.set_cons_succ]
  refine wpAnyH_takeL (i := 4) (v := ?vt4) rfl (by kernel_rfl) (by kernel_rfl) (by kernel_rfl) (fun _ _ _ h => h) (by rfl) ?ht4 (by assumption) ?_
  case ht4 => intro w hSw; go_simp <;> with_reducible rfl
  simp only [Act.put, List.setIfInBounds_toArray, List.set_cons_zero, List.set_cons_succ]
  refine wpAnyH_done (by kernel_rfl) ?_ _
  refine NoPanic.normal ?_
  go_wp2
  go_ret
  exact ⟨rfl, h.bel⟩

/-- Are two numbers a point? -/
def onB (A B : Nat) : Bool := decide (A < P) && (decide (B < P) && decide ((B * B % P % P + (P - A * A % P % P)) % P = (1 + Dn * (A * A % P * (B * B % P) % P) % P) % P))
set_option maxHeartbeats 4000000 in
theorem on13_any (A B : Nat) (lA : A < 115792089237316195423570985008687907853269984665640564039457584007913129639936) (lB : B < 115792089237316195423570985008687907853269984665640564039457584007913129639936) (w : World) : Calls Tryd.prog 13 #[.agg (pc A B).toArray] w fun e w' => e = .returned (.bool (onB A B)) ∧ Below w.heap.size w w' := by
  have h := Fr.one w 26 (pc A B)
  have bA := fun w => below13_any A lA w
  have bB := fun w => below13_any B lB w
  obtain ⟨n1, en1, ln1, cn1⟩ : ∃ n, A * A % P = n ∧ n < 115792089237316195423570985008687907853269984665640564039457584007913129639936 ∧ ∀ (w : World), Calls Tryd.prog 37 #[.agg (ec A).toArray, .agg (ec A).toArray] w fun e w' => e = .returned (.agg (ec n).toArray) ∧ Below w.heap.size w w' := ⟨_, rfl, mod_lt_T _, fun w => frefmul_el A A lA lA w⟩
  replace en1 := Away.mk en1
  obtain ⟨n2, en2, ln2, cn2⟩ : ∃ n, B * B % P = n ∧ n < 115792089237316195423570985008687907853269984665640564039457584007913129639936 ∧ ∀ (w : World), Calls Tryd.prog 37 #[.agg (ec B).toArray, .agg (ec B).toArray] w fun e w' => e = .returned (.agg (ec n).toArray) ∧ Below w.heap.size w w' := ⟨_, rfl, mod_lt_T _, fun w => frefmul_el B B lB lB w⟩
  replace en2 := Away.mk en2
  obtain ⟨n3, en3, ln3, cn3⟩ : ∃ n, n1 * n2 % P = n ∧ n < 115792089237316195423570985008687907853269984665640564039457584007913129639936 ∧ ∀ (w : World), Calls Tryd.prog 37 #[.agg (ec n1).toArray, .agg (ec n2).toArray] w fun e w' => e = .returned (.agg (ec n).toArray) ∧ Below w.heap.size w w' := ⟨_, rfl, mod_lt_T _, fun w => frefmul_el n1 n2 ln1 ln2 w⟩
  replace en3 := Away.mk en3
  obtain ⟨n4, en4, ln4, cn4⟩ : ∃ n, Dn * n3 % P = n ∧ n < 115792089237316195423570985008687907853269984665640564039457584007913129639936 ∧ ∀ (w : World), Calls Tryd.prog 37 #[.agg (ec Dn).toArray, .agg (ec n3).toArray] w fun e w' => e = .returned (.agg (ec n).toArray) ∧ Below w.heap.size w w' := ⟨_, rfl, mod_lt_T _, fun w => frefmul_el Dn n3 lDn ln3 w⟩
  replace en4 := Away.mk en4
  obtain ⟨n5, en5, ln5, cn5⟩ : ∃ n, (1 + n4) % P = n ∧ n < 115792089237316195423570985008687907853269984665640564039457584007913129639936 ∧ ∀ (w : World), Calls Tryd.prog 38 #[.agg (ec 1).toArray, .agg (ec n4).toArray] w fun e w' => e = .returned (.agg (ec n).toArray) ∧ Below w.heap.size w w' := ⟨_, rfl, mod_lt_T _, fun w => frefadd_el 1 n4 (by decide) ln4 w⟩
  replace en5 := Away.mk en5
  obtain ⟨n6, en6, ln6, cn6⟩ : ∃ n, (n2 % P + (P - n1 % P)) % P = n ∧ n < 115792089237316195423570985008687907853269984665640564039457584007913129639936 ∧ ∀ (w : World), Calls Tryd.prog 40 #[.agg (ec n2).toArray, .agg (ec n1).toArray] w fun e w' => e = .returned (.agg (ec n).toArray) ∧ Below w.heap.size w w' := ⟨_, rfl, mod_lt_T _, fun w => frefsub_el n2 n1 ln2 ln1 w⟩
  replace en6 := Away.mk en6
  have hq := fun w => eq4 w n6 n5 ln6 ln5
  have HV : Away (onB A B = (decide (A < P) && (decide (B < P) && decide (n6 = n5)))) := ⟨by rw [onB, en1.out, en2.out, en3.out, en4.out, en5.out, en6.out]⟩
  obtain ⟨p, hp⟩ : ∃ p, decide (A < P) = p := ⟨_, rfl⟩
  obtain ⟨q, hq2⟩ : ∃ q, decide (B < P) = q := ⟨_, rfl⟩
  obtain ⟨r, hr⟩ : ∃ r, decide (n6 = n5) = r := ⟨_, rfl⟩
  rw [hp] at bA HV
  rw [hq2] at bB HV
  rw [hr] at hq HV
  clear hp hq2 hr
  go_enter Tryd.func13, Tryd.ntmps13
  go_upto_region 1 with fail
  replace h := h.drew
  go_cut [3, 4] (fun v3 v4 wc => ∃ g3 g4, v3 = .pointer (some ⟨g3, 0, none⟩) ∧ v4 = .pointer (some ⟨g4, 0, none⟩) ∧ Fr w wc [(w.heap.size, 26, pc A B), (g3, 24, ec n1), (g4, 24, ec n2)])
  case first =>
    refine wp_region_noPanic ?_
    refine wp_region_held_drew (S := fun w' => Row w' w.heap.size 26 (pc A B)) (by kernel_rfl) (h.row (i := 0) rfl) (fun hHeld => ?_)
    refine wpAnyH_takeL (i := 0) (v := ?vt1) rfl (by kernel_rfl) (by kernel_rfl) (by kernel_rfl) (fun _ _ _ h => h) (by rfl) ?ht1 (by assumption) ?_
    case ht1 => intro w hSw; go_simp <;> with_reducible rfl
    simp only [Act.put, List.setIfInBounds_toArray, List.set_cons_zero, List.set_cons_succ]
    refine wpAnyH_takeL (i := 1) (v := (.agg (ec A).toArray)) rfl (by kernel_rfl) (by kernel_rfl) (by kernel_rfl) (fun _ _ _ h => h) (by rfl) ?ht2 (by assumption) ?_
    case ht2 => intro w hSw; exact exec_load_at 24 _ rfl rfl (pc_x hSw) rfl Tryd.underlying24 (ie4 _)
    simp only [Act.put, List.setIfInBounds_toArray, List.set_cons_zero, List.set_cons_succ]
    refine wpAnyH_takeL (i := 2) (v := ?vt3) rfl (by kernel_rfl) (by kernel_rfl) (by kernel_rfl) (fun _ _ _ h => h) (by rfl) ?ht3 (by assumption) ?_
    case ht3 => intro w hSw; go_simp <;> with_reducible rfl
    simp only [Act.put, List.setIfInBounds_toArray, List.set_cons_zero, List.set_cons_succ]
    refine wpAnyH_takeL (i := 3) (v := (.agg (ec A).toArray)) rfl (by kernel_rfl) (by kernel_rfl) (by kernel_rfl) (fun _ _ _ h => h) (by rfl) ?ht4 (by assumption) ?_
    case ht4 => intro w hSw; exact exec_load_at 24 _ rfl rfl (pc_x hSw) rfl Tryd.underlying24 (ie4 _)
    simp only [Act.put, List.setIfInBounds_toArray, List.set_cons_zero, List.set_cons_succ]
    refine wpAnyH_takeL (i := 5) (v := ?vt5) rfl (by kernel_rfl) (by kernel_rfl) (by kernel_rfl) (fun _ _ _ h => h) (by rfl) ?ht5 (by assumption) ?_
    case ht5 => intro w hSw; go_simp <;> with_reducible rfl
    simp only [Act.put, List.setIfInBounds_toArray, List.set_cons_zero, List.set_cons_succ]
    refine wpAnyH_takeL (i := 6) (v := (.agg (ec B).toArray)) rfl (by kernel_rfl) (by kernel_rfl) (by kernel_rfl) (fun _ _ _ h => h) (by rfl) ?ht6 (by assumption) ?_
    case ht6 => intro w hSw; exact exec_load_at 24 _ rfl rfl (pc_y hSw) rfl Tryd.underlying24 (ie4 _)
    simp only [Act.put, List.setIfInBounds_toArray, List.set_cons_zero, List.set_cons_succ]
    refine wpAnyH_takeL (i := 7) (v := ?vt7) rfl (by kernel_rfl) (by kernel_rfl) (by kernel_rfl) (fun _ _ _ h => h) (by rfl) ?ht7 (by assumption) ?_
    case ht7 => intro w hSw; go_simp <;> with_reducible rfl
    simp only [Act.put, List.setIfInBounds_toArray, List.set_cons_zero, List.set_cons_succ]
    refine wpAnyH_takeL (i := 8) (v := (.agg (ec B).toArray)) rfl (by kernel_rfl) (by kernel_rfl) (by kernel_rfl) (fun _ _ _ h => h) (by rfl) ?ht8 (by assumption) ?_
    case ht8 => intro w hSw; exact exec_load_at 24 _ rfl rfl (pc_y hSw) rfl Tryd.underlying24 (ie4 _)
    simp only [Act.put, List.setIfInBounds_toArray, List.set_cons_zero, List.set_cons_succ]
    refine ready_threeL (i := 4) (j := 10) (k := 11) (by kernel_rfl) rfl rfl rfl (by rfl) (by rfl) (by rfl) (fun K hK => ?_) (fun K hK => ?_) (fun K hK => ?_)
    · go_simp
      refine (cn1 _).mono ?_
      rintro _ wn ⟨rfl, hb⟩
      replace h := h.below hb
      clear hb
      refine hK.out _ _ (h.row (i := 0) rfl) (fun hHeld => ?_)
      clear hK K
      refine ready_threeL (i := 9) (j := 10) (k := 11) (by kernel_rfl) rfl rfl rfl (by rfl) (by rfl) (by rfl) (fun K hK => ?_) (fun K hK => ?_) (fun K hK => ?_)
      · go_simp
        refine (cn2 _).mono ?_
        rintro _ wn ⟨rfl, hb⟩
        replace h := h.below hb
        clear hb
        refine hK.out _ _ (h.row (i := 0) rfl) (fun hHeld => ?_)
        clear hK K
        refine ready_twoL (i := 10) (j := 11) (by kernel_rfl) rfl rfl (by rfl) (by rfl) (fun K hK => ?_) (fun K hK => ?_)
        · refine wp_alloc_R 24 rfl (ec 0) z4w ?_
          obtain ⟨g3, hgq, hq⟩ := h.more 1 24 (ec 0)
          replace h : Fr w _ [(w.heap.size, 26, pc A B), (g3, 24, ec 0)] := hq
          rw [hgq]
          clear hgq hq
          refine hK.out _ _ (h.row (i := 0) rfl) (fun hHeld => ?_)
          clear hK K
          refine allReadyH_oneL (i := 11) (by kernel_rfl) rfl (by rfl) (fun K hK => ?_)
          refine wp_alloc_R 24 rfl (ec 0) z4w ?_
          obtain ⟨g4, hgq, hq⟩ := h.more 2 24 (ec 0)
          replace h : Fr w _ [(w.heap.size, 26, pc A B), (g3, 24, ec 0), (g4, 24, ec 0)] := hq
          rw [hgq]
          clear hgq hq
          refine hK.out _ _ (h.row (i := 0) rfl) (fun hHeld => ?_)
          clear hK K
          refine allReadyH_oneL (i := 12) (by kernel_rfl) rfl (by rfl) (fun K hK => ?_)
          refine wp_store_R 24 _ _ rfl _ (ec n1) rfl rfl (h.row (i := 1) rfl) (ie4 _) rfl (ec_all _) ?_
          intro wz q hg hz
          replace h : Fr w wz [(w.heap.size, 26, pc A B), (g3, 24, ec n1), (g4, 24, ec 0)] := h.put (i := 1) rfl q hg
          clear q hg hz
          refine hK.out _ _ (h.row (i := 0) rfl) (fun hHeld => ?_)
          clear hK K
          refine allReadyH_oneL (i := 13) (by kernel_rfl) rfl (by rfl) (fun K hK => ?_)
          refine wp_store_R 24 _ _ rfl _ (ec n2) rfl rfl (h.row (i := 2) rfl) (ie4 _) rfl (ec_all _) ?_
          intro wz q hg hz
          replace h : Fr w wz [(w.heap.size, 26, pc A B), (g3, 24, ec n1), (g4, 24, ec n2)] := h.put (i := 2) rfl q hg
          clear q hg hz
          refine hK.out _ _ (h.row (i := 0) rfl) (fun hHeld => ?_)
          clear hK K
          refine wpAnyH_done (by kernel_rfl) ?_ _
          refine NoPanic.normal ?_
          go_wp2
          go_meet
          case rel => exact ⟨_, _, rfl, rfl, h⟩
        · refine wp_alloc_R 24 rfl (ec 0) z4w ?_
          obtain ⟨g4, hgq, hq⟩ := h.more 1 24 (ec 0)
          replace h : Fr w _ [(w.heap.size, 26, pc A B), (g4, 24, ec 0)] := hq
          rw [hgq]
          clear hgq hq
          refine hK.out _ _ (h.row (i := 0) rfl) (fun hHeld => ?_)
          clear hK K
          refine allReadyH_oneL (i := 10) (by kernel_rfl) rfl (by rfl) (fun K hK => ?_)
          refine wp_alloc_R 24 rfl (ec 0) z4w ?_
          obtain ⟨g3, hgq, hq⟩ := h.more 1 24 (ec 0)
          replace h : Fr w _ [(w.heap.size, 26, pc A B), (g3, 24, ec 0), (g4, 24, ec 0)] := hq
          rw [hgq]
          clear hgq hq
          refine hK.out _ _ (h.row (i := 0) rfl) (fun hHeld => ?_)
          clear hK K
          refine allReadyH_oneL (i := 12) (by kernel_rfl) rfl (by rfl) (fun K hK => ?_)
          refine wp_store_R 24 _ _ rfl _ (ec n1) rfl rfl (h.row (i := 1) rfl) (ie4 _) rfl (ec_all _) ?_
          intro wz q hg hz
          replace h : Fr w wz [(w.heap.size, 26, pc A B), (g3, 24, ec n1), (g4, 24, ec 0)] := h.put (i := 1) rfl q hg
          clear q hg hz
          refine hK.out _ _ (h.row (i := 0) rfl) (fun hHeld => ?_)
          clear hK K
          refine allReadyH_oneL (i := 13) (by kernel_rfl) rfl (by rfl) (fun K hK => ?_)
          refine wp_store_R 24 _ _ rfl _ (ec n2) rfl rfl (h.row (i := 2) rfl) (ie4 _) rfl (ec_all _) ?_
          intro wz q hg hz
          replace h : Fr w wz [(w.heap.size, 26, pc A B), (g3, 24, ec n1), (g4, 24, ec n2)] := h.put (i := 2) rfl q hg
          clear q hg hz
          refine hK.out _ _ (h.row (i := 0) rfl) (fun hHeld => ?_)
          clear hK K
          refine wpAnyH_done (by kernel_rfl) ?_ _
          refine NoPanic.normal ?_
          go_wp2
          go_meet
          case rel => exact ⟨_, _, rfl, rfl, h⟩
      · refine wp_alloc_R 24 rfl (ec 0) z4w ?_
        obtain ⟨g3, hgq, hq⟩ := h.more 1 24 (ec 0)
        replace h : Fr w _ [(w.heap.size, 26, pc A B), (g3, 24, ec 0)] := hq
        rw [hgq]
        clear hgq hq
        refine hK.out _ _ (h.row (i := 0) rfl) (fun hHeld => ?_)
        clear hK K
        refine ready_twoL (i := 9) (j := 11) (by kernel_rfl) rfl rfl (by rfl) (by rfl) (fun K hK => ?_) (fun K hK => ?_)
        · go_simp
          refine (cn2 _).mono ?_
          rintro _ wn ⟨rfl, hb⟩
          replace h := h.below hb
          clear hb
          refine hK.out _ _ (h.row (i := 0) rfl) (fun hHeld => ?_)
          clear hK K
          refine allReadyH_oneL (i := 11) (by kernel_rfl) rfl (by rfl) (fun K hK => ?_)
          refine wp_alloc_R 24 rfl (ec 0) z4w ?_
          obtain ⟨g4, hgq, hq⟩ := h.more 2 24 (ec 0)
          replace h : Fr w _ [(w.heap.size, 26, pc A B), (g3, 24, ec 0), (g4, 24, ec 0)] := hq
          rw [hgq]
          clear hgq hq
          refine hK.out _ _ (h.row (i := 0) rfl) (fun hHeld => ?_)
          clear hK K
          refine allReadyH_oneL (i := 12) (by kernel_rfl) rfl (by rfl) (fun K hK => ?_)
          refine wp_store_R 24 _ _ rfl _ (ec n1) rfl rfl (h.row (i := 1) rfl) (ie4 _) rfl (ec_all _) ?_
          intro wz q hg hz
          replace h : Fr w wz [(w.heap.size, 26, pc A B), (g3, 24, ec n1), (g4, 24, ec 0)] := h.put (i := 1) rfl q hg
          clear q hg hz
          refine hK.out _ _ (h.row (i := 0) rfl) (fun hHeld => ?_)
          clear hK K
          refine allReadyH_oneL (i := 13) (by kernel_rfl) rfl (by rfl) (fun K hK => ?_)
          refine wp_store_R 24 _ _ rfl _ (ec n2) rfl rfl (h.row (i := 2) rfl) (ie4 _) rfl (ec_all _) ?_
          intro wz q hg hz
          replace h : Fr w wz [(w.heap.size, 26, pc A B), (g3, 24, ec n1), (g4, 24, ec n2)] := h.put (i := 2) rfl q hg
          clear q hg hz
          refine hK.out _ _ (h.row (i := 0) rfl) (fun hHeld => ?_)
          clear hK K
          refine wpAnyH_done (by kernel_rfl) ?_ _
          refine NoPanic.normal ?_
          go_wp2
          go_meet
          case rel => exact ⟨_, _, rfl, rfl, h⟩
        · refine wp_alloc_R 24 rfl (ec 0) z4w ?_
          obtain ⟨g4, hgq, hq⟩ := h.more 2 24 (ec 0)
          replace h : Fr w _ [(w.heap.size, 26, pc A B), (g3, 24, ec 0), (g4, 24, ec 0)] := hq
          rw [hgq]
          clear hgq hq
          refine hK.out _ _ (h.row (i := 0) rfl) (fun hHeld => ?_)
          clear hK K
          refine allReadyH_oneL (i := 9) (by kernel_rfl) rfl (by rfl) (fun K hK => ?_)
          go_simp
          refine (cn2 _).mono ?_
          rintro _ wn ⟨rfl, hb⟩
          replace h := h.below hb
          clear hb
          refine hK.out _ _ (h.row (i := 0) rfl) (fun hHeld => ?_)
          clear hK K
          refine allReadyH_oneL (i := 12) (by kernel_rfl) rfl (by rfl) (fun K hK => ?_)
          refine wp_store_R 24 _ _ rfl _ (ec n1) rfl rfl (h.row (i := 1) rfl) (ie4 _) rfl (ec_all _) ?_
          intro wz q hg hz
          replace h : Fr w wz [(w.heap.size, 26, pc A B), (g3, 24, ec n1), (g4, 24, ec 0)] := h.put (i := 1) rfl q hg
          clear q hg hz
          refine hK.out _ _ (h.row (i := 0) rfl) (fun hHeld => ?_)
          clear hK K
          refine allReadyH_oneL (i := 13) (by kernel_rfl) rfl (by rfl) (fun K hK => ?_)
          refine wp_store_R 24 _ _ rfl _ (ec n2) rfl rfl (h.row (i := 2) rfl) (ie4 _) rfl (ec_all _) ?_
          intro wz q hg hz
          replace h : Fr w wz [(w.heap.size, 26, pc A B), (g3, 24, ec n1), (g4, 24, ec n2)] := h.put (i := 2) rfl q hg
          clear q hg hz
          refine hK.out _ _ (h.row (i := 0) rfl) (fun hHeld => ?_)
          clear hK K
          refine wpAnyH_done (by kernel_rfl) ?_ _
          refine NoPanic.normal ?_
          go_wp2
          go_meet
          case rel => exact ⟨_, _, rfl, rfl, h⟩
      · refine wp_alloc_R 24 rfl (ec 0) z4w ?_
        obtain ⟨g4, hgq, hq⟩ := h.more 1 24 (ec 0)
        replace h : Fr w _ [(w.heap.size, 26, pc A B), (g4, 24, ec 0)] := hq
        rw [hgq]
        clear hgq hq
        refine hK.out _ _ (h.row (i := 0) rfl) (fun hHeld => ?_)
        clear hK K
        refine ready_twoL (i := 9) (j := 10) (by kernel_rfl) rfl rfl (by rfl) (by rfl) (fun K hK => ?_) (fun K hK => ?_)
        · go_simp
          refine (cn2 _).mono ?_
          rintro _ wn ⟨rfl, hb⟩
          replace h := h.below hb
          clear hb
          refine hK.out _ _ (h.row (i := 0) rfl) (fun hHeld => ?_)
          clear hK K
          refine allReadyH_oneL (i := 10) (by kernel_rfl) rfl (by rfl) (fun K hK => ?_)
          refine wp_alloc_R 24 rfl (ec 0) z4w ?_
          obtain ⟨g3, hgq, hq⟩ := h.more 1 24 (ec 0)
          replace h : Fr w _ [(w.heap.size, 26, pc A B), (g3, 24, ec 0), (g4, 24, ec 0)] := hq
          rw [hgq]
          clear hgq hq
          refine hK.out _ _ (h.row (i := 0) rfl) (fun hHeld => ?_)
          clear hK K
          refine allReadyH_oneL (i := 12) (by kernel_rfl) rfl (by rfl) (fun K hK => ?_)
          refine wp_store_R 24 _ _ rfl _ (ec n1) rfl rfl (h.row (i := 1) rfl) (ie4 _) rfl (ec_all _) ?_
          intro wz q hg hz
          replace h : Fr w wz [(w.heap.size, 26, pc A B), (g3, 24, ec n1), (g4, 24, ec 0)] := h.put (i := 1) rfl q hg
          clear q hg hz
          refine hK.out _ _ (h.row (i := 0) rfl) (fun hHeld => ?_)
          clear hK K
          refine allReadyH_oneL (i := 13) (by kernel_rfl) rfl (by rfl) (fun K hK => ?_)
          refine wp_store_R 24 _ _ rfl _ (ec n2) rfl rfl (h.row (i := 2) rfl) (ie4 _) rfl (ec_all _) ?_
          intro wz q hg hz
          replace h : Fr w wz [(w.heap.size, 26, pc A B), (g3, 24, ec n1), (g4, 24, ec n2)] := h.put (i := 2) rfl q hg
          clear q hg hz
          refine hK.out _ _ (h.row (i := 0) rfl) (fun hHeld => ?_)
          clear hK K
          refine wpAnyH_done (by kernel_rfl) ?_ _
          refine NoPanic.normal ?_
          go_wp2
          go_meet
          case rel => exact ⟨_, _, rfl, rfl, h⟩
        · refine wp_alloc_R 24 rfl (ec 0) z4w ?_
          obtain ⟨g3, hgq, hq⟩ := h.more 1 24 (ec 0)
          replace h : Fr w _ [(w.heap.size, 26, pc A B), (g3, 24, ec 0), (g4, 24, ec 0)] := hq
          rw [hgq]
          clear hgq hq
          refine hK.out _ _ (h.row (i := 0) rfl) (fun hHeld => ?_)
          clear hK K
          refine allReadyH_oneL (i := 9) (by kernel_rfl) rfl (by rfl) (fun K hK => ?_)
          go_simp
          refine (cn2 _).mono ?_
          rintro _ wn ⟨rfl, hb⟩
          replace h := h.below hb
          clear hb
          refine hK.out _ _ (h.row (i := 0) rfl) (fun hHeld => ?_)
          clear hK K
          refine allReadyH_oneL (i := 12) (by kernel_rfl) rfl (by rfl) (fun K hK => ?_)
          refine wp_store_R 24 _ _ rfl _ (ec n1) rfl rfl (h.row (i := 1) rfl) (ie4 _) rfl (ec_all _) ?_
          intro wz q hg hz
          replace h : Fr w wz [(w.heap.size, 26, pc A B), (g3, 24, ec n1), (g4, 24, ec 0)] := h.put (i := 1) rfl q hg
          clear q hg hz
          refine hK.out _ _ (h.row (i := 0) rfl) (fun hHeld => ?_)
          clear hK K
          refine allReadyH_oneL (i := 13) (by kernel_rfl) rfl (by rfl) (fun K hK => ?_)
          refine wp_store_R 24 _ _ rfl _ (ec n2) rfl rfl (h.row (i := 2) rfl) (ie4 _) rfl (ec_all _) ?_
          intro wz q hg hz
          replace h : Fr w wz [(w.heap.size, 26, pc A B), (g3, 24, ec n1), (g4, 24, ec n2)] := h.put (i := 2) rfl q hg
          clear q hg hz
          refine hK.out _ _ (h.row (i := 0) rfl) (fun hHeld => ?_)
          clear hK K
          refine wpAnyH_done (by kernel_rfl) ?_ _
          refine NoPanic.normal ?_
          go_wp2
          go_meet
          case rel => exact ⟨_, _, rfl, rfl, h⟩
    · refine wp_alloc_R 24 rfl (ec 0) z4w ?_
      obtain ⟨g3, hgq, hq⟩ := h.more 1 24 (ec 0)
      replace h : Fr w _ [(w.heap.size, 26, pc A B), (g3, 24, ec 0)] := hq
      rw [hgq]
      clear hgq hq
      refine hK.out _ _ (h.row (i := 0) rfl) (fun hHeld => ?_)
      clear hK K
      refine ready_twoL (i := 4) (j := 11) (by kernel_rfl) rfl rfl (by rfl) (by rfl) (fun K hK => ?_) (fun K hK => ?_)
      · go_simp
        refine (cn1 _).mono ?_
        rintro _ wn ⟨rfl, hb⟩
        replace h := h.below hb
        clear hb
        refine hK.out _ _ (h.row (i := 0) rfl) (fun hHeld => ?_)
        clear hK K
        refine ready_twoL (i := 9) (j := 11) (by kernel_rfl) rfl rfl (by rfl) (by rfl) (fun K hK => ?_) (fun K hK => ?_)
        · go_simp
          refine (cn2 _).mono ?_
          rintro _ wn ⟨rfl, hb⟩
          replace h := h.below hb
          clear hb
          refine hK.out _ _ (h.row (i := 0) rfl) (fun hHeld => ?_)
          clear hK K
          refine allReadyH_oneL (i := 11) (by kernel_rfl) rfl (by rfl) (fun K hK => ?_)
          refine wp_alloc_R 24 rfl (ec 0) z4w ?_
          obtain ⟨g4, hgq, hq⟩ := h.more 2 24 (ec 0)
          replace h : Fr w _ [(w.heap.size, 26, pc A B), (g3, 24, ec 0), (g4, 24, ec 0)] := hq
          rw [hgq]
          clear hgq hq
          refine hK.out _ _ (h.row (i := 0) rfl) (fun hHeld => ?_)
          clear hK K
          refine allReadyH_oneL (i := 12) (by kernel_rfl) rfl (by rfl) (fun K hK => ?_)
          refine wp_store_R 24 _ _ rfl _ (ec n1) rfl rfl (h.row (i := 1) rfl) (ie4 _) rfl (ec_all _) ?_
          intro wz q hg hz
          replace h : Fr w wz [(w.heap.size, 26, pc A B), (g3, 24, ec n1), (g4, 24, ec 0)] := h.put (i := 1) rfl q hg
          clear q hg hz
          refine hK.out _ _ (h.row (i := 0) rfl) (fun hHeld => ?_)
          clear hK K
          refine allReadyH_oneL (i := 13) (by kernel_rfl) rfl (by rfl) (fun K hK => ?_)
          refine wp_store_R 24 _ _ rfl _ (ec n2) rfl rfl (h.row (i := 2) rfl) (ie4 _) rfl (ec_all _) ?_
          intro wz q hg hz
          replace h : Fr w wz [(w.heap.size, 26, pc A B), (g3, 24, ec n1), (g4, 24, ec n2)] := h.put (i := 2) rfl q hg
          clear q hg hz
          refine hK.out _ _ (h.row (i := 0) rfl) (fun hHeld => ?_)
          clear hK K
          refine wpAnyH_done (by kernel_rfl) ?_ _
          refine NoPanic.normal ?_
          go_wp2
          go_meet
          case rel => exact ⟨_, _, rfl, rfl, h⟩
        · refine wp_alloc_R 24 rfl (ec 0) z4w ?_
          obtain ⟨g4, hgq, hq⟩ := h.more 2 24 (ec 0)
          replace h : Fr w _ [(w.heap.size, 26, pc A B), (g3, 24, ec 0), (g4, 24, ec 0)] := hq
          rw [hgq]
          clear hgq hq
          refine hK.out _ _ (h.row (i := 0) rfl) (fun hHeld => ?_)
          clear hK K
          refine allReadyH_oneL (i := 9) (by kernel_rfl) rfl (by rfl) (fun K hK => ?_)
          go_simp
          refine (cn2 _).mono ?_
          rintro _ wn ⟨rfl, hb⟩
          replace h := h.below hb
          clear hb
          refine hK.out _ _ (h.row (i := 0) rfl) (fun hHeld => ?_)
          clear hK K
          refine allReadyH_oneL (i := 12) (by kernel_rfl) rfl (by rfl) (fun K hK => ?_)
          refine wp_store_R 24 _ _ rfl _ (ec n1) rfl rfl (h.row (i := 1) rfl) (ie4 _) rfl (ec_all _) ?_
          intro wz q hg hz
          replace h : Fr w wz [(w.heap.size, 26, pc A B), (g3, 24, ec n1), (g4, 24, ec 0)] := h.put (i := 1) rfl q hg
          clear q hg hz
          refine hK.out _ _ (h.row (i := 0) rfl) (fun hHeld => ?_)
          clear hK K
          refine allReadyH_oneL (i := 13) (by kernel_rfl) rfl (by rfl) (fun K hK => ?_)
          refine wp_store_R 24 _ _ rfl _ (ec n2) rfl rfl (h.row (i := 2) rfl) (ie4 _) rfl (ec_all _) ?_
          intro wz q hg hz
          replace h : Fr w wz [(w.heap.size, 26, pc A B), (g3, 24, ec n1), (g4, 24, ec n2)] := h.put (i := 2) rfl q hg
          clear q hg hz
          refine hK.out _ _ (h.row (i := 0) rfl) (fun hHeld => ?_)
          clear hK K
          refine wpAnyH_done (by kernel_rfl) ?_ _
          refine NoPanic.normal ?_
          go_wp2
          go_meet
          case rel => exact ⟨_, _, rfl, rfl, h⟩
      · refine wp_alloc_R 24 rfl (ec 0) z4w ?_
        obtain ⟨g4, hgq, hq⟩ := h.more 2 24 (ec 0)
        replace h : Fr w _ [(w.heap.size, 26, pc A B), (g3, 24, ec 0), (g4, 24, ec 0)] := hq
        rw [hgq]
        clear hgq hq
        refine hK.out _ _ (h.row (i := 0) rfl) (fun hHeld => ?_)
        clear hK K
        refine allReadyH_oneL (i := 4) (by kernel_rfl) rfl (by rfl) (fun K hK => ?_)
        go_simp
        refine (cn1 _).mono ?_
        rintro _ wn ⟨rfl, hb⟩
        replace h := h.below hb
        clear hb
        refine hK.out _ _ (h.row (i := 0) rfl) (fun hHeld => ?_)
        clear hK K
        refine allReadyH_oneL (i := 9) (by kernel_rfl) rfl (by rfl) (fun K hK => ?_)
        go_simp
        refine (cn2 _).mono ?_
        rintro _ wn ⟨rfl, hb⟩
        replace h := h.below hb
        clear hb
        refine hK.out _ _ (h.row (i := 0) rfl) (fun hHeld => ?_)
        clear hK K
        refine allReadyH_oneL (i := 12) (by kernel_rfl) rfl (by rfl) (fun K hK => ?_)
        refine wp_store_R 24 _ _ rfl _ (ec n1) rfl rfl (h.row (i := 1) rfl) (ie4 _) rfl (ec_all _) ?_
        intro wz q hg hz
        replace h : Fr w wz [(w.heap.size, 26, pc A B), (g3, 24, ec n1), (g4, 24, ec 0)] := h.put (i := 1) rfl q hg
        clear q hg hz
        refine hK.out _ _ (h.row (i := 0) rfl) (fun hHeld => ?_)
        clear hK K
        refine allReadyH_oneL (i := 13) (by kernel_rfl) rfl (by rfl) (fun K hK => ?_)
        refine wp_store_R 24 _ _ rfl _ (ec n2) rfl rfl (h.row (i := 2) rfl) (ie4 _) rfl (ec_all _) ?_
        intro wz q hg hz
        replace h : Fr w wz [(w.heap.size, 26, pc A B), (g3, 24, ec n1), (g4, 24, ec n2)] := h.put (i := 2) rfl q hg
        clear q hg hz
        refine hK.out _ _ (h.row (i := 0) rfl) (fun hHeld => ?_)
        clear hK K
        refine wpAnyH_done (by kernel_rfl) ?_ _
        refine NoPanic.normal ?_
        go_wp2
        go_meet
        case rel => exact ⟨_, _, rfl, rfl, h⟩
    · refine wp_alloc_R 24 rfl (ec 0) z4w ?_
      obtain ⟨g4, hgq, hq⟩ := h.more 1 24 (ec 0)
      replace h : Fr w _ [(w.heap.size, 26, pc A B), (g4, 24, ec 0)] := hq
      rw [hgq]
      clear hgq hq
      refine hK.out _ _ (h.row (i := 0) rfl) (fun hHeld => ?_)
      clear hK K
      refine ready_twoL (i := 4) (j := 10) (by kernel_rfl) rfl rfl (by rfl) (by rfl) (fun K hK => ?_) (fun K hK => ?_)
      · go_simp
        refine (cn1 _).mono ?_
        rintro _ wn ⟨rfl, hb⟩
        replace h := h.below hb
        clear hb
        refine hK.out _ _ (h.row (i := 0) rfl) (fun hHeld => ?_)
        clear hK K
        refine ready_twoL (i := 9) (j := 10) (by kernel_rfl) rfl rfl (by rfl) (by rfl) (fun K hK => ?_) (fun K hK => ?_)
        · go_simp
          refine (cn2 _).mono ?_
          rintro _ wn ⟨rfl, hb⟩
          replace h := h.below hb
          clear hb
          refine hK.out _ _ (h.row (i := 0) rfl) (fun hHeld => ?_)
          clear hK K
          refine allReadyH_oneL (i := 10) (by kernel_rfl) rfl (by rfl) (fun K hK => ?_)
          refine wp_alloc_R 24 rfl (ec 0) z4w ?_
          obtain ⟨g3, hgq, hq⟩ := h.more 1 24 (ec 0)
          replace h : Fr w _ [(w.heap.size, 26, pc A B), (g3, 24, ec 0), (g4, 24, ec 0)] := hq
          rw [hgq]
          clear hgq hq
          refine hK.out _ _ (h.row (i := 0) rfl) (fun hHeld => ?_)
          clear hK K
          refine allReadyH_oneL (i := 12) (by kernel_rfl) rfl (by rfl) (fun K hK => ?_)
          refine wp_store_R 24 _ _ rfl _ (ec n1) rfl rfl (h.row (i := 1) rfl) (ie4 _) rfl (ec_all _) ?_
          intro wz q hg hz
          replace h : Fr w wz [(w.heap.size, 26, pc A B), (g3, 24, ec n1), (g4, 24, ec 0)] := h.put (i := 1) rfl q hg
          clear q hg hz
          refine hK.out _ _ (h.row (i := 0) rfl) (fun hHeld => ?_)
          clear hK K
          refine allReadyH_oneL (i := 13) (by kernel_rfl) rfl (by rfl) (fun K hK => ?_)
          refine wp_store_R 24 _ _ rfl _ (ec n2) rfl rfl (h.row (i := 2) rfl) (ie4 _) rfl (ec_all _) ?_
          intro wz q hg hz
          replace h : Fr w wz [(w.heap.size, 26, pc A B), (g3, 24, ec n1), (g4, 24, ec n2)] := h.put (i := 2) rfl q hg
          clear q hg hz
          refine hK.out _ _ (h.row (i := 0) rfl) (fun hHeld => ?_)
          clear hK K
          refine wpAnyH_done (by kernel_rfl) ?_ _
          refine NoPanic.normal ?_
          go_wp2
          go_meet
          case rel => exact ⟨_, _, rfl, rfl, h⟩
        · refine wp_alloc_R 24 rfl (ec 0) z4w ?_
          obtain ⟨g3, hgq, hq⟩ := h.more 1 24 (ec 0)
          replace h : Fr w _ [(w.heap.size, 26, pc A B), (g3, 24, ec 0), (g4, 24, ec 0)] := hq
          rw [hgq]
          clear hgq hq
          refine hK.out _ _ (h.row (i := 0) rfl) (fun hHeld => ?_)
          clear hK K
          refine allReadyH_oneL (i := 9) (by kernel_rfl) rfl (by rfl) (fun K hK => ?_)
          go_simp
          refine (cn2 _).mono ?_
          rintro _ wn ⟨rfl, hb⟩
          replace h := h.below hb
          clear hb
          refine hK.out _ _ (h.row (i := 0) rfl) (fun hHeld => ?_)
          clear hK K
          refine allReadyH_oneL (i := 12) (by kernel_rfl) rfl (by rfl) (fun K hK => ?_)
          refine wp_store_R 24 _ _ rfl _ (ec n1) rfl rfl (h.row (i := 1) rfl) (ie4 _) rfl (ec_all _) ?_
          intro wz q hg hz
          replace h : Fr w wz [(w.heap.size, 26, pc A B), (g3, 24, ec n1), (g4, 24, ec 0)] := h.put (i := 1) rfl q hg
          clear q hg hz
          refine hK.out _ _ (h.row (i := 0) rfl) (fun hHeld => ?_)
          clear hK K
          refine allReadyH_oneL (i := 13) (by kernel_rfl) rfl (by rfl) (fun K hK => ?_)
          refine wp_store_R 24 _ _ rfl _ (ec n2) rfl rfl (h.row (i := 2) rfl) (ie4 _) rfl (ec_all _) ?_
          intro wz q hg hz
          replace h : Fr w wz [(w.heap.size, 26, pc A B), (g3, 24, ec n1), (g4, 24, ec n2)] := h.put (i := 2) rfl q hg
          clear q hg hz
          refine hK.out _ _ (h.row (i := 0) rfl) (fun hHeld => ?_)
          clear hK K
          refine wpAnyH_done (by kernel_rfl) ?_ _
          refine NoPanic.normal ?_
          go_wp2
          go_meet
          case rel => exact ⟨_, _, rfl, rfl, h⟩
      · refine wp_alloc_R 24 rfl (ec 0) z4w ?_
        obtain ⟨g3, hgq, hq⟩ := h.more 1 24 (ec 0)
        replace h : Fr w _ [(w.heap.size, 26, pc A B), (g3, 24, ec 0), (g4, 24, ec 0)] := hq
        rw [hgq]
        clear hgq hq
        refine hK.out _ _ (h.row (i := 0) rfl) (fun hHeld => ?_)
        clear hK K
        refine allReadyH_oneL (i := 4) (by kernel_rfl) rfl (by rfl) (fun K hK => ?_)
        go_simp
        refine (cn1 _).mono ?_
        rintro _ wn ⟨rfl, hb⟩
        replace h := h.below hb
        clear hb
        refine hK.out _ _ (h.row (i := 0) rfl) (fun hHeld => ?_)
        clear hK K
        refine allReadyH_oneL (i := 9) (by kernel_rfl) rfl (by rfl) (fun K hK => ?_)
        go_simp
        refine (cn2 _).mono ?_
        rintro _ wn ⟨rfl, hb⟩
        replace h := h.below hb
        clear hb
        refine hK.out _ _ (h.row (i := 0) rfl) (fun hHeld => ?_)
        clear hK K
        refine allReadyH_oneL (i := 12) (by kernel_rfl) rfl (by rfl) (fun K hK => ?_)
        refine wp_store_R 24 _ _ rfl _ (ec n1) rfl rfl (h.row (i := 1) rfl) (ie4 _) rfl (ec_all _) ?_
        intro wz q hg hz
        replace h : Fr w wz [(w.heap.size, 26, pc A B), (g3, 24, ec n1), (g4, 24, ec 0)] := h.put (i := 1) rfl q hg
        clear q hg hz
        refine hK.out _ _ (h.row (i := 0) rfl) (fun hHeld => ?_)
        clear hK K
        refine allReadyH_oneL (i := 13) (by kernel_rfl) rfl (by rfl) (fun K hK => ?_)
        refine wp_store_R 24 _ _ rfl _ (ec n2) rfl rfl (h.row (i := 2) rfl) (ie4 _) rfl (ec_all _) ?_
        intro wz q hg hz
        replace h : Fr w wz [(w.heap.size, 26, pc A B), (g3, 24, ec n1), (g4, 24, ec n2)] := h.put (i := 2) rfl q hg
        clear q hg hz
        refine hK.out _ _ (h.row (i := 0) rfl) (fun hHeld => ?_)
        clear hK K
        refine wpAnyH_done (by kernel_rfl) ?_ _
        refine NoPanic.normal ?_
        go_wp2
        go_meet
        case rel => exact ⟨_, _, rfl, rfl, h⟩
  case rest =>
    clear h
    obtain ⟨g3, g4, rfl, rfl, h⟩ := hcut
    go_upto_region 2 with fail
    try simp only [Act.put, List.setIfInBounds_toArray, List.set_cons_zero, List.set_cons_succ]
    replace h := h.drew
    go_cut [5] (fun v5 wc => ∃ g5, v5 = .pointer (some ⟨g5, 0, none⟩) ∧ Fr w wc [(w.heap.size, 26, pc A B), (g3, 24, ec n1), (g4, 24, ec n2), (g5, 24, ec n5)])
    case first =>
      refine wp_region_noPanic ?_
      refine wp_region_held_drew (S := fun w' => Row w' g3 24 (ec n1) ∧ Row w' g4 24 (ec n2)) (by kernel_rfl) ⟨h.row (i := 1) rfl, h.row (i := 2) rfl⟩ (fun hHeld => ?_)
      refine wpAnyH_takeL (i := 0) (v := (.agg (ec 1).toArray)) rfl (by kernel_rfl) (by kernel_rfl) (by kernel_rfl) (fun _ _ _ h => h) (by rfl) ?ht9 (by assumption) ?_
      case ht9 => intro w hSw; exact exec_build_C 24 _ rfl (ec 1) (by kernel_rfl)
      simp only [Act.put, List.setIfInBounds_toArray, List.set_cons_zero, List.set_cons_succ]
      refine wpAnyH_takeL (i := 2) (v := (.agg (ec n1).toArray)) rfl (by kernel_rfl) (by kernel_rfl) (by kernel_rfl) (fun _ _ _ h => h) (by rfl) ?ht10 (by assumption) ?_
      case ht10 => intro w hSw; exact exec_load_W 24 _ rfl rfl hSw.1 Tryd.underlying24 rfl (ie4 _)
      simp only [Act.put, List.setIfInBounds_toArray, List.set_cons_zero, List.set_cons_succ]
      refine wpAnyH_takeL (i := 3) (v := (.agg (ec n2).toArray)) rfl (by kernel_rfl) (by kernel_rfl) (by kernel_rfl) (fun _ _ _ h => h) (by rfl) ?ht11 (by assumption) ?_
      case ht11 => intro w hSw; exact exec_load_W 24 _ rfl rfl hSw.2 Tryd.underlying24 rfl (ie4 _)
      simp only [Act.put, List.setIfInBounds_toArray, List.set_cons_zero, List.set_cons_succ]
      refine ready_twoL (i := 1) (j := 7) (by kernel_rfl) rfl rfl (by rfl) (by rfl) (fun K hK => ?_) (fun K hK => ?_)
      · go_simp
        refine (d13_any _).mono ?_
        rintro _ wn ⟨rfl, hb⟩
        replace h := h.below hb
        clear hb
        refine hK.out _ _ ⟨h.row (i := 1) rfl, h.row (i := 2) rfl⟩ (fun hHeld => ?_)
        clear hK K
        refine ready_twoL (i := 4) (j := 7) (by kernel_rfl) rfl rfl (by rfl) (by rfl) (fun K hK => ?_) (fun K hK => ?_)
        · go_simp
          refine (cn3 _).mono ?_
          rintro _ wn ⟨rfl, hb⟩
          replace h := h.below hb
          clear hb
          refine hK.out _ _ ⟨h.row (i := 1) rfl, h.row (i := 2) rfl⟩ (fun hHeld => ?_)
          clear hK K
          refine ready_twoL (i := 5) (j := 7) (by kernel_rfl) rfl rfl (by rfl) (by rfl) (fun K hK => ?_) (fun K hK => ?_)
          · go_simp
            refine (cn4 _).mono ?_
            rintro _ wn ⟨rfl, hb⟩
            replace h := h.below hb
            clear hb
            refine hK.out _ _ ⟨h.row (i := 1) rfl, h.row (i := 2) rfl⟩ (fun hHeld => ?_)
            clear hK K
            refine ready_twoL (i := 6) (j := 7) (by kernel_rfl) rfl rfl (by rfl) (by rfl) (fun K hK => ?_) (fun K hK => ?_)
            · go_simp
              refine (cn5 _).mono ?_
              rintro _ wn ⟨rfl, hb⟩
              replace h := h.below hb
              clear hb
              refine hK.out _ _ ⟨h.row (i := 1) rfl, h.row (i := 2) rfl⟩ (fun hHeld => ?_)
              clear hK K
              refine allReadyH_oneL (i := 7) (by kernel_rfl) rfl (by rfl) (fun K hK => ?_)
              refine wp_alloc_R 24 rfl (ec 0) z4w ?_
              obtain ⟨g5, hgq, hq⟩ := h.more 3 24 (ec 0)
              replace h : Fr w _ [(w.heap.size, 26, pc A B), (g3, 24, ec n1), (g4, 24, ec n2), (g5, 24, ec 0)] := hq
              rw [hgq]
              clear hgq hq
              refine hK.out _ _ ⟨h.row (i := 1) rfl, h.row (i := 2) rfl⟩ (fun hHeld => ?_)
              clear hK K
              refine allReadyH_oneL (i := 8) (by kernel_rfl) rfl (by rfl) (fun K hK => ?_)
              refine wp_store_R 24 _ _ rfl _ (ec n5) rfl rfl (h.row (i := 3) rfl) (ie4 _) rfl (ec_all _) ?_
              intro wz q hg hz
              replace h : Fr w wz [(w.heap.size, 26, pc A B), (g3, 24, ec n1), (g4, 24, ec n2), (g5, 24, ec n5)] := h.put (i := 3) rfl q hg
              clear q hg hz
              refine hK.out _ _ ⟨h.row (i := 1) rfl, h.row (i := 2) rfl⟩ (fun hHeld => ?_)
              clear hK K
              refine wpAnyH_done (by kernel_rfl) ?_ _
              refine NoPanic.normal ?_
              go_wp2
              go_meet
              case rel => exact ⟨_, rfl, h⟩
            · refine wp_alloc_R 24 rfl (ec 0) z4w ?_
              obtain ⟨g5, hgq, hq⟩ := h.more 3 24 (ec 0)
              replace h : Fr w _ [(w.heap.size, 26, pc A B), (g3, 24, ec n1), (g4, 24, ec n2), (g5, 24, ec 0)] := hq
              rw [hgq]
              clear hgq hq
              refine hK.out _ _ ⟨h.row (i := 1) rfl, h.row (i := 2) rfl⟩ (fun hHeld => ?_)
              clear hK K
              refine allReadyH_oneL (i := 6) (by kernel_rfl) rfl (by rfl) (fun K hK => ?_)
              go_simp
              refine (cn5 _).mono ?_
              rintro _ wn ⟨rfl, hb⟩
              replace h := h.below hb
              clear hb
              refine hK.out _ _ ⟨h.row (i := 1) rfl, h.row (i := 2) rfl⟩ (fun hHeld => ?_)
              clear hK K
              refine allReadyH_oneL (i := 8) (by kernel_rfl) rfl (by rfl) (fun K hK => ?_)
              refine wp_store_R 24 _ _ rfl _ (ec n5) rfl rfl (h.row (i := 3) rfl) (ie4 _) rfl (ec_all _) ?_
              intro wz q hg hz
              replace h : Fr w wz [(w.heap.size, 26, pc A B), (g3, 24, ec n1), (g4, 24, ec n2), (g5, 24, ec n5)] := h.put (i := 3) rfl q hg
              clear q hg hz
              refine hK.out _ _ ⟨h.row (i := 1) rfl, h.row (i := 2) rfl⟩ (fun hHeld => ?_)
              clear hK K
              refine wpAnyH_done (by kernel_rfl) ?_ _
              refine NoPanic.normal ?_
              go_wp2
              go_meet
              case rel => exact ⟨_, rfl, h⟩
          · refine wp_alloc_R 24 rfl (ec 0) z4w ?_
            obtain ⟨g5, hgq, hq⟩ := h.more 3 24 (ec 0)
            replace h : Fr w _ [(w.heap.size, 26, pc A B), (g3, 24, ec n1), (g4, 24, ec n2), (g5, 24, ec 0)] := hq
            rw [hgq]
            clear hgq hq
            refine hK.out _ _ ⟨h.row (i := 1) rfl, h.row (i := 2) rfl⟩ (fun hHeld => ?_)
            clear hK K
            refine allReadyH_oneL (i := 5) (by kernel_rfl) rfl (by rfl) (fun K hK => ?_)
            go_simp
            refine (cn4 _).mono ?_
            rintro _ wn ⟨rfl, hb⟩
            replace h := h.below hb
            clear hb
            refine hK.out _ _ ⟨h.row (i := 1) rfl, h.row (i := 2) rfl⟩ (fun hHeld => ?_)
            clear hK K
            refine allReadyH_oneL (i := 6) (by kernel_rfl) rfl (by rfl) (fun K hK => ?_)
            go_simp
            refine (cn5 _).mono ?_
            rintro _ wn ⟨rfl, hb⟩
            replace h := h.below hb
            clear hb
            refine hK.out _ _ ⟨h.row (i := 1) rfl, h.row (i := 2) rfl⟩ (fun hHeld => ?_)
            clear hK K
            refine allReadyH_oneL (i := 8) (by kernel_rfl) rfl (by rfl) (fun K hK => ?_)
            refine wp_store_R 24 _ _ rfl _ (ec n5) rfl rfl (h.row (i := 3) rfl) (ie4 _) rfl (ec_all _) ?_
            intro wz q hg hz
            replace h : Fr w wz [(w.heap.size, 26, pc A B), (g3, 24, ec n1), (g4, 24, ec n2), (g5, 24, ec n5)] := h.put (i := 3) rfl q hg
            clear q hg hz
            refine hK.out _ _ ⟨h.row (i := 1) rfl, h.row (i := 2) rfl⟩ (fun hHeld => ?_)
            clear hK K
            refine wpAnyH_done (by kernel_rfl) ?_ _
            refine NoPanic.normal ?_
            go_wp2
            go_meet
            case rel => exact ⟨_, rfl, h⟩
        · refine wp_alloc_R 24 rfl (ec 0) z4w ?_
          obtain ⟨g5, hgq, hq⟩ := h.more 3 24 (ec 0)
          replace h : Fr w _ [(w.heap.size, 26, pc A B), (g3, 24, ec n1), (g4, 24, ec n2), (g5, 24, ec 0)] := hq
          rw [hgq]
          clear hgq hq
          refine hK.out _ _ ⟨h.row (i := 1) rfl, h.row (i := 2) rfl⟩ (fun hHeld => ?_)
          clear hK K
          refine allReadyH_oneL (i := 4) (by kernel_rfl) rfl (by rfl) (fun K hK => ?_)
          go_simp
          refine (cn3 _).mono ?_
          rintro _ wn ⟨rfl, hb⟩
          replace h := h.below hb
          clear hb
          refine hK.out _ _ ⟨h.row (i := 1) rfl, h.row (i := 2) rfl⟩ (fun hHeld => ?_)
          clear hK K
          refine allReadyH_oneL (i := 5) (by kernel_rfl) rfl (by rfl) (fun K hK => ?_)
          go_simp
          refine (cn4 _).mono ?_
          rintro _ wn ⟨rfl, hb⟩
          replace h := h.below hb
          clear hb
          refine hK.out _ _ ⟨h.row (i := 1) rfl, h.row (i := 2) rfl⟩ (fun hHeld => ?_)
          clear hK K
          refine allReadyH_oneL (i := 6) (by kernel_rfl) rfl (by rfl) (fun K hK => ?_)
          go_simp
          refine (cn5 _).mono ?_
          rintro _ wn ⟨rfl, hb⟩
          replace h := h.below hb
          clear hb
          refine hK.out _ _ ⟨h.row (i := 1) rfl, h.row (i := 2) rfl⟩ (fun hHeld => ?_)
          clear hK K
          refine allReadyH_oneL (i := 8) (by kernel_rfl) rfl (by rfl) (fun K hK => ?_)
          refine wp_store_R 24 _ _ rfl _ (ec n5) rfl rfl (h.row (i := 3) rfl) (ie4 _) rfl (ec_all _) ?_
          intro wz q hg hz
          replace h : Fr w wz [(w.heap.size, 26, pc A B), (g3, 24, ec n1), (g4, 24, ec n2), (g5, 24, ec n5)] := h.put (i := 3) rfl q hg
          clear q hg hz
          refine hK.out _ _ ⟨h.row (i := 1) rfl, h.row (i := 2) rfl⟩ (fun hHeld => ?_)
          clear hK K
          refine wpAnyH_done (by kernel_rfl) ?_ _
          refine NoPanic.normal ?_
          go_wp2
          go_meet
          case rel => exact ⟨_, rfl, h⟩
      · refine wp_alloc_R 24 rfl (ec 0) z4w ?_
        obtain ⟨g5, hgq, hq⟩ := h.more 3 24 (ec 0)
        replace h : Fr w _ [(w.heap.size, 26, pc A B), (g3, 24, ec n1), (g4, 24, ec n2), (g5, 24, ec 0)] := hq
        rw [hgq]
        clear hgq hq
        refine hK.out _ _ ⟨h.row (i := 1) rfl, h.row (i := 2) rfl⟩ (fun hHeld => ?_)
        clear hK K
        refine allReadyH_oneL (i := 1) (by kernel_rfl) rfl (by rfl) (fun K hK => ?_)
        go_simp
        refine (d13_any _).mono ?_
        rintro _ wn ⟨rfl, hb⟩
        replace h := h.below hb
        clear hb
        refine hK.out _ _ ⟨h.row (i := 1) rfl, h.row (i := 2) rfl⟩ (fun hHeld => ?_)
        clear hK K
        refine allReadyH_oneL (i := 4) (by kernel_rfl) rfl (by rfl) (fun K hK => ?_)
        go_simp
        refine (cn3 _).mono ?_
        rintro _ wn ⟨rfl, hb⟩
        replace h := h.below hb
        clear hb
        refine hK.out _ _ ⟨h.row (i := 1) rfl, h.row (i := 2) rfl⟩ (fun hHeld => ?_)
        clear hK K
        refine allReadyH_oneL (i := 5) (by kernel_rfl) rfl (by rfl) (fun K hK => ?_)
        go_simp
        refine (cn4 _).mono ?_
        rintro _ wn ⟨rfl, hb⟩
        replace h := h.below hb
        clear hb
        refine hK.out _ _ ⟨h.row (i := 1) rfl, h.row (i := 2) rfl⟩ (fun hHeld => ?_)
        clear hK K
        refine allReadyH_oneL (i := 6) (by kernel_rfl) rfl (by rfl) (fun K hK => ?_)
        go_simp
        refine (cn5 _).mono ?_
        rintro _ wn ⟨rfl, hb⟩
        replace h := h.below hb
        clear hb
        refine hK.out _ _ ⟨h.row (i := 1) rfl, h.row (i := 2) rfl⟩ (fun hHeld => ?_)
        clear hK K
        refine allReadyH_oneL (i := 8) (by kernel_rfl) rfl (by rfl) (fun K hK => ?_)
        refine wp_store_R 24 _ _ rfl _ (ec n5) rfl rfl (h.row (i := 3) rfl) (ie4 _) rfl (ec_all _) ?_
        intro wz q hg hz
        replace h : Fr w wz [(w.heap.size, 26, pc A B), (g3, 24, ec n1), (g4, 24, ec n2), (g5, 24, ec n5)] := h.put (i := 3) rfl q hg
        clear q hg hz
        refine hK.out _ _ ⟨h.row (i := 1) rfl, h.row (i := 2) rfl⟩ (fun hHeld => ?_)
        clear hK K
        refine wpAnyH_done (by kernel_rfl) ?_ _
        refine NoPanic.normal ?_
        go_wp2
        go_meet
        case rel => exact ⟨_, rfl, h⟩
    case rest =>
      clear h
      obtain ⟨g5, rfl, h⟩ := hcut
      go_upto_region 3 with fail
      try simp only [Act.put, List.setIfInBounds_toArray, List.set_cons_zero, List.set_cons_succ]
      cases p
      · replace h := h.drew
        refine wp_region_noPanic ?_
        refine wp_region_held_drew (S := fun w' => Row w' w.heap.size 26 (pc A B) ∧ Row w' g4 24 (ec n2) ∧ Row w' g3 24 (ec n1) ∧ Row w' g5 24 (ec n5)) (by kernel_rfl) ⟨h.row (i := 0) rfl, h.row (i := 2) rfl, h.row (i := 1) rfl, h.row (i := 3) rfl⟩ (fun hHeld => ?_)
        refine wpAnyH_takeL (i := 0) (v := ?vt12) rfl (by kernel_rfl) (by kernel_rfl) (by kernel_rfl) (fun _ _ _ h => h) (by rfl) ?ht12 (by assumption) ?_
        case ht12 => intro w hSw; go_simp <;> with_reducible rfl
        simp only [Act.put, List.setIfInBounds_toArray, List.set_cons_zero, List.set_cons_succ]
        refine wpAnyH_takeL (i := 1) (v := (.agg (ec A).toArray)) rfl (by kernel_rfl) (by kernel_rfl) (by kernel_rfl) (fun _ _ _ h => h) (by rfl) ?ht13 (by assumption) ?_
        case ht13 => intro w hSw; exact exec_load_at 24 _ rfl rfl (pc_x hSw.1) rfl Tryd.underlying24 (ie4 _)
        simp only [Act.put, List.setIfInBounds_toArray, List.set_cons_zero, List.set_cons_succ]
        refine allReadyH_oneL (i := 2) (by kernel_rfl) rfl (by rfl) (fun K hK => ?_)
        go_simp
        refine (bA _).mono ?_
        rintro _ wn ⟨rfl, hb⟩
        replace h := h.below hb
        clear hb
        refine hK.out _ _ ⟨h.row (i := 0) rfl, h.row (i := 2) rfl, h.row (i := 1) rfl, h.row (i := 3) rfl⟩ (fun hHeld => ?_)
        clear hK K
        refine wpAnyH_takeL (i := 3) (v := ?vt14) rfl (by kernel_rfl) (by kernel_rfl) (by kernel_rfl) (fun _ _ _ h => h) (by rfl) ?ht14 (by assumption) ?_
        case ht14 => intro w hSw; go_simp <;> with_reducible rfl
        simp only [Act.put, List.setIfInBounds_toArray, List.set_cons_zero, List.set_cons_succ]
        refine wpAnyH_skipL (i := 4) rfl (by kernel_rfl) (by kernel_rfl) (by kernel_rfl) (fun _ _ _ h => h) (by rfl) (by assumption) ?_
        simp only [Act.put, List.setIfInBounds_toArray, List.set_cons_zero, List.set_cons_succ]
        refine wpAnyH_skipL (i := 5) rfl (by kernel_rfl) (by kernel_rfl) (by kernel_rfl) (fun _ _ _ h => h) (by rfl) (by assumption) ?_
        simp only [Act.put, List.setIfInBounds_toArray, List.set_cons_zero, List.set_cons_succ]
        refine wpAnyH_skipL (i := 6) rfl (by kernel_rfl) (by kernel_rfl) (by kernel_rfl) (fun _ _ _ h => h) (by rfl) (by assumption) ?_
        simp only [Act.put, List.setIfInBounds_toArray, List.set_cons_zero, List.set_cons_succ]
        refine wpAnyH_takeL (i := 7) (v := ?vt18) rfl (by kernel_rfl) (by kernel_rfl) (by kernel_rfl) (fun _ _ _ h => h) (by rfl) ?ht18 (by assumption) ?_
        case ht18 => intro w hSw; go_simp <;> with_reducible rfl
        simp only [Act.put, List.setIfInBounds_toArray, List.set_cons_zero, List.set_cons_succ]
        refine wpAnyH_takeL (i := 8) (v := ?vt19) rfl (by kernel_rfl) (by kernel_rfl) (by kernel_rfl) (fun _ _ _ h => h) (by rfl) ?ht19 (by assumption) ?_
        case ht19 => intro w hSw; go_simp <;> with_reducible rfl
        simp only [Act.put, List.setIfInBounds_toArray, List.set_cons_zero, List.set_cons_succ]
        refine wpAnyH_skipL (i := 9) rfl (by kernel_rfl) (by kernel_rfl) (by kernel_rfl) (fun _ _ _ h => h) (by rfl) (by assumption) ?_
        simp only [Act.put, List.setIfInBounds_toArray, List.set_cons_zero, List.set_cons_succ]
        refine wpAnyH_skipL (i := 10) rfl (by kernel_rfl) (by kernel_rfl) (by kernel_rfl) (fun _ _ _ h => h) (by rfl) (by assumption) ?_
        simp only [Act.put, List.setIfInBounds_toArray, List.set_cons_zero, List.set_cons_succ]
        refine wpAnyH_skipL (i := 11) rfl (by kernel_rfl) (by kernel_rfl) (by kernel_rfl) (fun _ _ _ h => h) (by rfl) (by assumption) ?_
        simp only [Act.put, List.setIfInBounds_toArray, List.set_cons_zero, List.set_cons_succ]
        refine wpAnyH_skipL (i := 12) rfl (by kernel_rfl) (by kernel_rfl) (by kernel_rfl) (fun _ _ _ h => h) (by rfl) (by assumption) ?_
        simp only [Act.put, List.setIfInBounds_toArray, List.set_cons_zero, List.set_cons_succ]
        refine wpAnyH_skipL (i := 13) rfl (by kernel_rfl) (by kernel_rfl) (by kernel_rfl) (fun _ _ _ h => h) (by rfl) (by assumption) ?_
        simp only [Act.put, List.setIfInBounds_toArray, List.set_cons_zero, List.set_cons_succ]
        refine wpAnyH_takeL (i := 14) (v := ?vt25) rfl (by kernel_rfl) (by kernel_rfl) (by kernel_rfl) (fun _ _ _ h => h) (by rfl) ?ht25 (by assumption) ?_
        case ht25 => intro w hSw; go_simp <;> with_reducible rfl
        simp only [Act.put, List.setIfInBounds_toArray, List.set_cons_zero, List.set_cons_succ]
        refine wpAnyH_takeL (i := 15) (v := ?vt26) rfl (by kernel_rfl) (by kernel_rfl) (by kernel_rfl) (fun _ _ _ h => h) (by rfl) ?ht26 (by assumption) ?_
        case ht26 => intro w hSw; go_simp <;> with_reducible rfl
        simp only [Act.put, List.setIfInBounds_toArray, List.set_cons_zero, List.set_cons_succ]
        refine wpAnyH_done (by kernel_rfl) ?_ _
        refine NoPanic.normal ?_
        go_wp2
        go_ret
        exact ⟨by rw [HV.out]; rfl, h.bel⟩
      · cases q
        · replace h := h.drew
          refine wp_region_noPanic ?_
          refine wp_region_held_drew (S := fun w' => Row w' w.heap.size 26 (pc A B) ∧ Row w' g4 24 (ec n2) ∧ Row w' g3 24 (ec n1) ∧ Row w' g5 24 (ec n5)) (by kernel_rfl) ⟨h.row (i := 0) rfl, h.row (i := 2) rfl, h.row (i := 1) rfl, h.row (i := 3) rfl⟩ (fun hHeld => ?_)
          refine wpAnyH_takeL (i := 0) (v := ?vt27) rfl (by kernel_rfl) (by kernel_rfl) (by kernel_rfl) (fun _ _ _ h => h) (by rfl) ?ht27 (by assumption) ?_
          case ht27 => intro w hSw; go_simp <;> with_reducible rfl
          simp only [Act.put, List.setIfInBounds_toArray, List.set_cons_zero, List.set_cons_succ]
          refine wpAnyH_takeL (i := 1) (v := (.agg (ec A).toArray)) rfl (by kernel_rfl) (by kernel_rfl) (by kernel_rfl) (fun _ _ _ h => h) (by rfl) ?ht28 (by assumption) ?_
          case ht28 => intro w hSw; exact exec_load_at 24 _ rfl rfl (pc_x hSw.1) rfl Tryd.underlying24 (ie4 _)
          simp only [Act.put, List.setIfInBounds_toArray, List.set_cons_zero, List.set_cons_succ]
          refine allReadyH_oneL (i := 2) (by kernel_rfl) rfl (by rfl) (fun K hK => ?_)
          go_simp
          refine (bA _).mono ?_
          rintro _ wn ⟨rfl, hb⟩
          replace h := h.below hb
          clear hb
          refine hK.out _ _ ⟨h.row (i := 0) rfl, h.row (i := 2) rfl, h.row (i := 1) rfl, h.row (i := 3) rfl⟩ (fun hHeld => ?_)
          clear hK K
          refine wpAnyH_takeL (i := 3) (v := ?vt29) rfl (by kernel_rfl) (by kernel_rfl) (by kernel_rfl) (fun _ _ _ h => h) (by rfl) ?ht29 (by assumption) ?_
          case ht29 => intro w hSw; go_simp <;> with_reducible rfl
          simp only [Act.put, List.setIfInBounds_toArray, List.set_cons_zero, List.set_cons_succ]
          refine wpAnyH_takeL (i := 4) (v := ?vt30) rfl (by kernel_rfl) (by kernel_rfl) (by kernel_rfl) (fun _ _ _ h => h) (by rfl) ?ht30 (by assumption) ?_
          case ht30 => intro w hSw; go_simp <;> with_reducible rfl
          simp only [Act.put, List.setIfInBounds_toArray, List.set_cons_zero, List.set_cons_succ]
          refine wpAnyH_takeL (i := 5) (v := (.agg (ec B).toArray)) rfl (by kernel_rfl) (by kernel_rfl) (by kernel_rfl) (fun _ _ _ h => h) (by rfl) ?ht31 (by assumption) ?_
          case ht31 => intro w hSw; exact exec_load_at 24 _ rfl rfl (pc_y hSw.1) rfl Tryd.underlying24 (ie4 _)
          simp only [Act.put, List.setIfInBounds_toArray, List.set_cons_zero, List.set_cons_succ]
          refine allReadyH_oneL (i := 6) (by kernel_rfl) rfl (by rfl) (fun K hK => ?_)
          go_simp
          refine (bB _).mono ?_
          rintro _ wn ⟨rfl, hb⟩
          replace h := h.below hb
          clear hb
          refine hK.out _ _ ⟨h.row (i := 0) rfl, h.row (i := 2) rfl, h.row (i := 1) rfl, h.row (i := 3) rfl⟩ (fun hHeld => ?_)
          clear hK K
          refine wpAnyH_takeL (i := 7) (v := ?vt32) rfl (by kernel_rfl) (by kernel_rfl) (by kernel_rfl) (fun _ _ _ h => h) (by rfl) ?ht32 (by assumption) ?_
          case ht32 => intro w hSw; go_simp <;> with_reducible rfl
          simp only [Act.put, List.setIfInBounds_toArray, List.set_cons_zero, List.set_cons_succ]
          refine wpAnyH_takeL (i := 8) (v := ?vt33) rfl (by kernel_rfl) (by kernel_rfl) (by kernel_rfl) (fun _ _ _ h => h) (by rfl) ?ht33 (by assumption) ?_
          case ht33 => intro w hSw; go_simp <;> with_reducible rfl
          simp only [Act.put, List.setIfInBounds_toArray, List.set_cons_zero, List.set_cons_succ]
          refine wpAnyH_skipL (i := 9) rfl (by kernel_rfl) (by kernel_rfl) (by kernel_rfl) (fun _ _ _ h => h) (by rfl) (by assumption) ?_
          simp only [Act.put, List.setIfInBounds_toArray, List.set_cons_zero, List.set_cons_succ]
          refine wpAnyH_skipL (i := 10) rfl (by kernel_rfl) (by kernel_rfl) (by kernel_rfl) (fun _ _ _ h => h) (by rfl) (by assumption) ?_
          simp only [Act.put, List.setIfInBounds_toArray, List.set_cons_zero, List.set_cons_succ]
          refine wpAnyH_skipL (i := 11) rfl (by kernel_rfl) (by kernel_rfl) (by kernel_rfl) (fun _ _ _ h => h) (by rfl) (by assumption) ?_
          simp only [Act.put, List.setIfInBounds_toArray, List.set_cons_zero, List.set_cons_succ]
          refine wpAnyH_skipL (i := 12) rfl (by kernel_rfl) (by kernel_rfl) (by kernel_rfl) (fun _ _ _ h => h) (by rfl) (by assumption) ?_
          simp only [Act.put, List.setIfInBounds_toArray, List.set_cons_zero, List.set_cons_succ]
          refine wpAnyH_skipL (i := 13) rfl (by kernel_rfl) (by kernel_rfl) (by kernel_rfl) (fun _ _ _ h => h) (by rfl) (by assumption) ?_
          simp only [Act.put, List.setIfInBounds_toArray, List.set_cons_zero, List.set_cons_succ]
          refine wpAnyH_takeL (i := 14) (v := ?vt39) rfl (by kernel_rfl) (by kernel_rfl) (by kernel_rfl) (fun _ _ _ h => h) (by rfl) ?ht39 (by assumption) ?_
          case ht39 => intro w hSw; go_simp <;> with_reducible rfl
          simp only [Act.put, List.setIfInBounds_toArray, List.set_cons_zero, List.set_cons_succ]
          refine wpAnyH_takeL (i := 15) (v := ?vt40) rfl (by kernel_rfl) (by kernel_rfl) (by kernel_rfl) (fun _ _ _ h => h) (by rfl) ?ht40 (by assumption) ?_
          case ht40 => intro w hSw; go_simp <;> with_reducible rfl
          simp only [Act.put, List.setIfInBounds_toArray, List.set_cons_zero, List.set_cons_succ]
          refine wpAnyH_done (by kernel_rfl) ?_ _
          refine NoPanic.normal ?_
          go_wp2
          go_ret
          exact ⟨by rw [HV.out]; rfl, h.bel⟩
        · replace h := h.drew
          refine wp_region_noPanic ?_
          refine wp_region_held_drew (S := fun w' => Row w' w.heap.size 26 (pc A B) ∧ Row w' g4 24 (ec n2) ∧ Row w' g3 24 (ec n1) ∧ Row w' g5 24 (ec n5)) (by kernel_rfl) ⟨h.row (i := 0) rfl, h.row (i := 2) rfl, h.row (i := 1) rfl, h.row (i := 3) rfl⟩ (fun hHeld => ?_)
          refine wpAnyH_takeL (i := 0) (v := ?vt41) rfl (by kernel_rfl) (by kernel_rfl) (by kernel_rfl) (fun _ _ _ h => h) (by rfl) ?ht41 (by assumption) ?_
          case ht41 => intro w hSw; go_simp <;> with_reducible rfl
          simp only [Act.put, List.setIfInBounds_toArray, List.set_cons_zero, List.set_cons_succ]
          refine wpAnyH_takeL (i := 1) (v := (.agg (ec A).toArray)) rfl (by kernel_rfl) (by kernel_rfl) (by kernel_rfl) (fun _ _ _ h => h) (by rfl) ?ht42 (by assumption) ?_
          case ht42 => intro w hSw; exact exec_load_at 24 _ rfl rfl (pc_x hSw.1) rfl Tryd.underlying24 (ie4 _)
          simp only [Act.put, List.setIfInBounds_toArray, List.set_cons_zero, List.set_cons_succ]
          refine allReadyH_oneL (i := 2) (by kernel_rfl) rfl (by rfl) (fun K hK => ?_)
          go_simp
          refine (bA _).mono ?_
          rintro _ wn ⟨rfl, hb⟩
          replace h := h.below hb
          clear hb
          refine hK.out _ _ ⟨h.row (i := 0) rfl, h.row (i := 2) rfl, h.row (i := 1) rfl, h.row (i := 3) rfl⟩ (fun hHeld => ?_)
          clear hK K
          refine wpAnyH_takeL (i := 3) (v := ?vt43) rfl (by kernel_rfl) (by kernel_rfl) (by kernel_rfl) (fun _ _ _ h => h) (by rfl) ?ht43 (by assumption) ?_
          case ht43 => intro w hSw; go_simp <;> with_reducible rfl
          simp only [Act.put, List.setIfInBounds_toArray, List.set_cons_zero, List.set_cons_succ]
          refine wpAnyH_takeL (i := 4) (v := ?vt44) rfl (by kernel_rfl) (by kernel_rfl) (by kernel_rfl) (fun _ _ _ h => h) (by rfl) ?ht44 (by assumption) ?_
          case ht44 => intro w hSw; go_simp <;> with_reducible rfl
          simp only [Act.put, List.setIfInBounds_toArray, List.set_cons_zero, List.set_cons_succ]
          refine wpAnyH_takeL (i := 5) (v := (.agg (ec B).toArray)) rfl (by kernel_rfl) (by kernel_rfl) (by kernel_rfl) (fun _ _ _ h => h) (by rfl) ?ht45 (by assumption) ?_
          case ht45 => intro w hSw; exact exec_load_at 24 _ rfl rfl (pc_y hSw.1) rfl Tryd.underlying24 (ie4 _)
          simp only [Act.put, List.setIfInBounds_toArray, List.set_cons_zero, List.set_cons_succ]
          refine allReadyH_oneL (i := 6) (by kernel_rfl) rfl (by rfl) (fun K hK => ?_)
          go_simp
          refine (bB _).mono ?_
          rintro _ wn ⟨rfl, hb⟩
          replace h := h.below hb
          clear hb
          refine hK.out _ _ ⟨h.row (i := 0) rfl, h.row (i := 2) rfl, h.row (i := 1) rfl, h.row (i := 3) rfl⟩ (fun hHeld => ?_)
          clear hK K
          refine wpAnyH_takeL (i := 7) (v := ?vt46) rfl (by kernel_rfl) (by kernel_rfl) (by kernel_rfl) (fun _ _ _ h => h) (by rfl) ?ht46 (by assumption) ?_
          case ht46 => intro w hSw; go_simp <;> with_reducible rfl
          simp only [Act.put, List.setIfInBounds_toArray, List.set_cons_zero, List.set_cons_succ]
          refine wpAnyH_takeL (i := 8) (v := ?vt47) rfl (by kernel_rfl) (by kernel_rfl) (by kernel_rfl) (fun _ _ _ h => h) (by rfl) ?ht47 (by assumption) ?_
          case ht47 => intro w hSw; go_simp <;> with_reducible rfl
          simp only [Act.put, List.setIfInBounds_toArray, List.set_cons_zero, List.set_cons_succ]
          refine wpAnyH_takeL (i := 9) (v := (.agg (ec n2).toArray)) rfl (by kernel_rfl) (by kernel_rfl) (by kernel_rfl) (fun _ _ _ h => h) (by rfl) ?ht48 (by assumption) ?_
          case ht48 => intro w hSw; exact exec_load_W 24 _ rfl rfl hSw.2.1 Tryd.underlying24 rfl (ie4 _)
          simp only [Act.put, List.setIfInBounds_toArray, List.set_cons_zero, List.set_cons_succ]
          refine wpAnyH_takeL (i := 10) (v := (.agg (ec n1).toArray)) rfl (by kernel_rfl) (by kernel_rfl) (by kernel_rfl) (fun _ _ _ h => h) (by rfl) ?ht49 (by assumption) ?_
          case ht49 => intro w hSw; exact exec_load_W 24 _ rfl rfl hSw.2.2.1 Tryd.underlying24 rfl (ie4 _)
          simp only [Act.put, List.setIfInBounds_toArray, List.set_cons_zero, List.set_cons_succ]
          refine wpAnyH_takeL (i := 12) (v := (.agg (ec n5).toArray)) rfl (by kernel_rfl) (by kernel_rfl) (by kernel_rfl) (fun _ _ _ h => h) (by rfl) ?ht50 (by assumption) ?_
          case ht50 => intro w hSw; exact exec_load_W 24 _ rfl rfl hSw.2.2.2 Tryd.underlying24 rfl (ie4 _)
          simp only [Act.put, List.setIfInBounds_toArray, List.set_cons_zero, List.set_cons_succ]
          refine allReadyH_oneL (i := 11) (by kernel_rfl) rfl (by rfl) (fun K hK => ?_)
          go_simp
          refine (cn6 _).mono ?_
          rintro _ wn ⟨rfl, hb⟩
          replace h := h.below hb
          clear hb
          refine hK.out _ _ ⟨h.row (i := 0) rfl, h.row (i := 2) rfl, h.row (i := 1) rfl, h.row (i := 3) rfl⟩ (fun hHeld => ?_)
          clear hK K
          refine wpAnyH_takeL (i := 13) (v := ?vt51) rfl (by kernel_rfl) (by kernel_rfl) (by kernel_rfl) (fun _ _ _ h => h) (by rfl) ?ht51 (by assumption) ?_
          case ht51 => intro w hSw; go_simp <;> with_reducible rfl
          simp only [Act.put, List.setIfInBounds_toArray, List.set_cons_zero, List.set_cons_succ]
          refine wpAnyH_takeL (i := 14) (v := ?vt52) rfl (by kernel_rfl) (by kernel_rfl) (by kernel_rfl) (fun _ _ _ h => h) (by rfl) ?ht52 (by assumption) ?_
          case ht52 => intro w hSw; go_simp <;> with_reducible rfl
          simp only [Act.put, List.setIfInBounds_toArray, List.set_cons_zero, List.set_cons_succ]
          refine wpAnyH_takeL (i := 15) (v := ?vt53) rfl (by kernel_rfl) (by kernel_rfl) (by kernel_rfl) (fun _ _ _ h => h) (by rfl) ?ht53 (by assumption) ?_
          case ht53 => intro w hSw; go_simp <;> with_reducible rfl
          simp only [Act.put, List.setIfInBounds_toArray, List.set_cons_zero, List.set_cons_succ]
          refine wpAnyH_done (by kernel_rfl) ?_ _
          refine NoPanic.normal ?_
          go_wp2
          go_ret
          exact ⟨by rw [HV.out]; rfl, h.bel⟩

end Go.Proofs.YthjlbcbkllaicaaDoor.F
namespace Go.Proofs.YthjlbcbkllaicaaDoor.F
set_option linter.unusedVariables false
set_option maxRecDepth 10000

open E (z z_val z_same z_add z_mul z_sub z_inv z_mod z_of dd Pt padd pneg pmul iv ax ay)

theorem z_D : z Dn = dd := by decide +kernel
theorem z_lt {m n : Nat} (hm : m < P) (hn : n < P) : z m = z n ↔ m = n := by
  rw [z_same, Nat.mod_eq_of_lt hm, Nat.mod_eq_of_lt hn]
theorem val_lt_P (a : E.Z) : a.val < P := by rw [← E.Q_one]; exact a.isLt
theorem z_valz {m : Nat} (h : m < P) : (z m).val = m := by rw [z_val, Nat.mod_eq_of_lt h]
theorem on_form {n : Nat} {x y d : Fin (n + 1)} : (y * y - x * x = 1 + d * (x * x * (y * y))) ↔ E.On d x y := by
  unfold E.On
  constructor <;> intro h <;> grind
theorem onB_iff (A B : Nat) : onB A B = true ↔ A < P ∧ B < P ∧ E.On dd (z A) (z B) := by
  rw [onB, Bool.and_eq_true, Bool.and_eq_true, decide_eq_true_iff, decide_eq_true_iff, decide_eq_true_iff, ← z_lt (mod_lt_P _) (mod_lt_P _), z_sub, z_mul, z_mul, z_add, z_mul, z_mul, z_mul, z_mul, z_D, show z 1 = 1 from rfl, on_form]
/-- The point that two numbers count as. -/
def ownP (A B : Nat) : Pt := if h : onB A B = true then ⟨z A, z B, ((onB_iff A B).1 h).2.2⟩ else Pt.zero
/-- A point's cells. -/
def pv (p : Pt) : List Value := pc p.x.val p.y.val
theorem ownP_on {A B : Nat} (h : onB A B = true) : (ownP A B).x.val = A ∧ (ownP A B).y.val = B := by
  obtain ⟨h1, h2, _⟩ := (onB_iff A B).1 h
  rw [ownP, dif_pos h]
  exact ⟨z_valz h1, z_valz h2⟩
theorem ownP_off {A B : Nat} (h : onB A B = false) : (ownP A B).x.val = 0 ∧ (ownP A B).y.val = 1 := by
  rw [ownP, dif_neg (by rw [h]; decide)]
  exact ⟨rfl, rfl⟩
theorem pv_own (A B : Nat) : pv (ownP A B) = if onB A B = true then pc A B else pc 0 1 := by
  unfold pv
  cases h : onB A B
  · rw [(ownP_off h).1, (ownP_off h).2]; rfl
  · rw [(ownP_on h).1, (ownP_on h).2]; rfl
theorem onB_val (p : Pt) : onB p.x.val p.y.val = true := by
  rw [onB_iff, z_of, z_of]
  exact ⟨val_lt_P _, val_lt_P _, p.on⟩
theorem ownP_val (p : Pt) : ownP p.x.val p.y.val = p := by
  rw [ownP, dif_pos (onB_val p)]
  cases p
  simp only [z_of]
theorem ptx_lt (p : Pt) : p.x.val < 115792089237316195423570985008687907853269984665640564039457584007913129639936 := Nat.lt_trans (val_lt_P _) P_lt
theorem pty_lt (p : Pt) : p.y.val < 115792089237316195423570985008687907853269984665640564039457584007913129639936 := Nat.lt_trans (val_lt_P _) P_lt
end Go.Proofs.YthjlbcbkllaicaaDoor.F
namespace Go.Proofs.YthjlbcbkllaicaaDoor.F
open Go.RowKit
set_option linter.unusedVariables false
set_option maxRecDepth 10000

open E (z z_val z_same z_add z_mul z_sub z_inv z_mod z_of dd Pt padd pneg pmul iv ax ay)
theorem own13_any (A B : Nat) (lA : A < 115792089237316195423570985008687907853269984665640564039457584007913129639936) (lB : B < 115792089237316195423570985008687907853269984665640564039457584007913129639936) (w : World) : Calls Tryd.prog 43 #[.agg (pc A B).toArray] w fun e w' => e = .returned (.agg (pv (ownP A B)).toArray) ∧ Below w.heap.size w w' := by
  obtain ⟨w2, h2, h⟩ := Fr.two w 26 26 (pc A B) (pc 0 0)
  have c1 := fun w => on13_any A B lA lB w
  have HV := Away.mk (pv_own A B)
  obtain ⟨b, hb⟩ : ∃ b, onB A B = b := ⟨_, rfl⟩
  rw [hb] at c1 HV
  clear hb
  go_enter Tryd.func43, Tryd.ntmps43
  go_upto_region 1 with (refine wpList_alloc_row rfl 26 rfl _ zPw ?_)
  try simp only [Act.put, List.setIfInBounds_toArray, List.set_cons_zero, List.set_cons_succ, alloc_size, h2]
  clear h2
  go_wp2_with (refine wpList_load_row rfl 26 _ rfl _ rfl _ _ _ _ (h.row (i := 0) rfl) Tryd.underlying26 rfl (iP _ _) ?_)
  refine (c1 _).mono ?_
  rintro _ wn ⟨rfl, hb⟩
  replace h := h.below hb
  clear hb c1
  cases b
  · go_wp2_with fail
    refine (zero13_any _).mono ?_
    rintro _ wn ⟨rfl, hb⟩
    replace h := h.below hb
    clear hb
    go_wp2_with (refine wpList_store_R rfl 26 _ _ rfl _ (pc 0 1) rfl rfl (h.row (i := 1) rfl) (iP _ _) rfl (pc_all _ _) ?_; intro wz q hg hz)
    replace h : Fr w wz [(w.heap.size, 26, pc A B), (w.heap.size + 1, 26, pc 0 1)] := h.put (i := 1) rfl q hg
    exact result_row Tryd.results43 rfl (h.row (i := 1) rfl) Tryd.underlying26 rfl (iP _ _) rfl ⟨by rw [HV.out]; rfl, h.bel⟩
  · go_wp2_with (first | refine wpList_load_row rfl 26 _ rfl _ rfl _ _ _ _ (h.row (i := 0) rfl) Tryd.underlying26 rfl (iP _ _) ?_ | (refine wpList_store_R rfl 26 _ _ rfl _ (pc A B) rfl rfl (h.row (i := 1) rfl) (iP _ _) rfl (pc_all _ _) ?_; intro wz q hg hz))
    replace h : Fr w wz [(w.heap.size, 26, pc A B), (w.heap.size + 1, 26, pc A B)] := h.put (i := 1) rfl q hg
    exact result_row Tryd.results43 rfl (h.row (i := 1) rfl) Tryd.underlying26 rfl (iP _ _) rfl ⟨by rw [HV.out]; rfl, h.bel⟩

/-- own, its answer's numbers by letters. -/
theorem own13_let (A B : Nat) (lA : A < 115792089237316195423570985008687907853269984665640564039457584007913129639936) (lB : B < 115792089237316195423570985008687907853269984665640564039457584007913129639936) : ∃ X Y, (ownP A B).x.val = X ∧ (ownP A B).y.val = Y ∧ X < 115792089237316195423570985008687907853269984665640564039457584007913129639936 ∧ Y < 115792089237316195423570985008687907853269984665640564039457584007913129639936 ∧ z X = (ownP A B).x ∧ z Y = (ownP A B).y ∧ ∀ (w : World), Calls Tryd.prog 43 #[.agg (pc A B).toArray] w fun e w' => e = .returned (.agg (pc X Y).toArray) ∧ Below w.heap.size w w' :=
  ⟨_, _, rfl, rfl, ptx_lt _, pty_lt _, z_of _, z_of _, fun w => own13_any A B lA lB w⟩

theorem neg13_any (A B : Nat) (lA : A < 115792089237316195423570985008687907853269984665640564039457584007913129639936) (lB : B < 115792089237316195423570985008687907853269984665640564039457584007913129639936) (w : World) : Calls Tryd.prog 15 #[.agg (pc A B).toArray] w fun e w' => e = .returned (.agg (pv (pneg (ownP A B))).toArray) ∧ Below w.heap.size w w' := by
  obtain ⟨w2, h2, h⟩ := Fr.two w 26 26 (pc A B) (pc 0 0)
  obtain ⟨X, Y, eX, eY, lX, lY, zX, zY, co⟩ := own13_let A B lA lB
  obtain ⟨n1, en1, ln1, cn1⟩ : ∃ n, (0 % P + (P - X % P)) % P = n ∧ n < 115792089237316195423570985008687907853269984665640564039457584007913129639936 ∧ ∀ (w : World), Calls Tryd.prog 40 #[.agg (ec 0).toArray, .agg (ec X).toArray] w fun e w' => e = .returned (.agg (ec n).toArray) ∧ Below w.heap.size w w' := ⟨_, rfl, mod_lt_T _, fun w => frefsub_el 0 X (by decide) lX w⟩
  replace en1 := Away.mk en1
  have HV : Away (pv (pneg (ownP A B)) = pc n1 Y) := ⟨by
    have e : (pneg (ownP A B)).x.val = n1 := by
      rw [← en1.out, ← z_valz (mod_lt_P _), z_sub, zX]
      show (-(ownP A B).x).val = (0 - (ownP A B).x).val
      congr 1
    unfold pv
    rw [e]
    show pc n1 (ownP A B).y.val = _
    rw [eY]⟩
  clear eX eY zX zY
  go_enter Tryd.func15, Tryd.ntmps15
  go_upto_region 1 with (refine wpList_alloc_row rfl 26 rfl _ zPw ?_)
  try simp only [Act.put, List.setIfInBounds_toArray, List.set_cons_zero, List.set_cons_succ, alloc_size, h2]
  clear h2
  go_wp2_with (first | refine wpList_load_row rfl 26 _ rfl _ rfl _ _ _ _ (h.row (i := 0) rfl) Tryd.underlying26 rfl (iP _ _) ?_)
  refine (co _).mono ?_
  rintro _ wn ⟨rfl, hb⟩
  replace h := h.below hb
  clear hb
  go_upto_region 2 with (first | (refine wpList_store_R rfl 26 _ _ rfl _ (pc X Y) rfl rfl (h.row (i := 0) rfl) (iP _ _) rfl (pc_all _ _) ?_; intro wz q hg hz))
  replace h : Fr w wz [(w.heap.size, 26, pc X Y), ((w.heap.size + 1), 26, pc 0 0)] := h.put (i := 0) rfl q hg
  clear q hg hz
  go_wp2_with (first | refine wpList_build_C rfl 24 _ rfl (ec 0) (by kernel_rfl) ?_ | refine wpList_load_at rfl 24 _ rfl rfl (pc_x (h.row (i := 0) rfl)) rfl Tryd.underlying24 (ie4 _) ?_)
  refine (cn1 _).mono ?_
  rintro _ wn ⟨rfl, hb⟩
  replace h := h.below hb
  clear hb
  go_upto_region 3 with (first | (refine wpList_store_at rfl 24 _ _ rfl (ec n1) rfl rfl (pc_x (h.row (i := 0) rfl)) rfl (ie4 _) rfl (ec_all _) ?_; intro wz q hg hz))
  replace h : Fr w wz [(w.heap.size, 26, pc n1 Y), ((w.heap.size + 1), 26, pc 0 0)] := h.put (i := 0) rfl q hg
  clear q hg hz
  go_wp2_with (first | refine wpList_load_row rfl 26 _ rfl _ rfl _ _ _ _ (h.row (i := 0) rfl) Tryd.underlying26 rfl (iP _ _) ?_ | (refine wpList_store_R rfl 26 _ _ rfl _ (pc n1 Y) rfl rfl (h.row (i := 1) rfl) (iP _ _) rfl (pc_all _ _) ?_; intro wz q hg hz))
  replace h : Fr w wz [(w.heap.size, 26, pc n1 Y), ((w.heap.size + 1), 26, pc n1 Y)] := h.put (i := 1) rfl q hg
  clear q hg hz
  exact result_row Tryd.results15 rfl (h.row (i := 1) rfl) Tryd.underlying26 rfl (iP _ _) rfl ⟨by rw [HV.out], h.bel⟩

end Go.Proofs.YthjlbcbkllaicaaDoor.F
