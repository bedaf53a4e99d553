/-
  Contract of divWord, over this seat's translation. Conditions: at most 100000 words; the divisor is not 0.
-/
import Derived.Test.YtdpahahfcdldcaaDoorNatK
import Derived.Test.YtdpahahfcdldcaaDoorNatF
namespace Go.Proofs.YtdpahahfcdldcaaDoor
open Go.RowKit Go.Shelf
set_option linter.unusedVariables false
attribute [local go_sem] Oper.semAt_some

/-- What a division word by word leaves: the quotient's words, and what is left. -/
def divSt (b : Nat) (z : List Nat) {n : Nat} {V : Nat → Nat → Prop} (pre : List (Al n V)) : List Nat × Nat := pre.foldl (fun s x => (s.1.set x.1.1 ((s.2 * 4294967296 + x.1.2) / b), (s.2 * 4294967296 + x.1.2) % b)) (z, 0)
theorem divSt_snoc (b : Nat) (z : List Nat) {n : Nat} {V : Nat → Nat → Prop} (pre : List (Al n V)) (x : Al n V) : divSt b z (pre ++ [x]) = ((divSt b z pre).1.set x.1.1 (((divSt b z pre).2 * 4294967296 + x.1.2) / b), ((divSt b z pre).2 * 4294967296 + x.1.2) % b) := by simp [divSt]
theorem div_fits {l b z : Nat} (h : l < b) (hz : z < 4294967296) : (l * 4294967296 + z) / b < 4294967296 := by
  rw [Nat.div_lt_iff_lt_mul (by omega)]
  have : (l + 1) * 4294967296 ≤ b * 4294967296 := Nat.mul_le_mul_right _ h
  rw [Nat.mul_comm 4294967296 b]; omega
theorem divSt_lo (b m : Nat) (hb : 0 < b) {n : Nat} {V : Nat → Nat → Prop} (pre : List (Al n V)) : (divSt b (List.replicate m 0) pre).1.length = m ∧ Lo W32 (divSt b (List.replicate m 0) pre).1 ∧ (divSt b (List.replicate m 0) pre).2 < b := by
  have h : ∀ (l : List (Al n V)) (s : List Nat × Nat), s.1.length = m → Lo W32 s.1 → s.2 < b →
      (l.foldl (fun s x => (s.1.set x.1.1 ((s.2 * 4294967296 + x.1.2) / b), (s.2 * 4294967296 + x.1.2) % b)) s).1.length = m ∧ Lo W32 (l.foldl (fun s x => (s.1.set x.1.1 ((s.2 * 4294967296 + x.1.2) / b), (s.2 * 4294967296 + x.1.2) % b)) s).1 ∧ (l.foldl (fun s x => (s.1.set x.1.1 ((s.2 * 4294967296 + x.1.2) / b), (s.2 * 4294967296 + x.1.2) % b)) s).2 < b := by
    intro l
    induction l with
    | nil => intro s h1 h2 h3; exact ⟨h1, h2, h3⟩
    | cons x l ih => intro s h1 h2 h3; exact ih _ (by simp [h1]) (h2.set _ _ (div_fits h3 x.2.2.1)) (Nat.mod_lt _ hb)
  exact h pre _ (by simp) (Lo.zeros (by decide) _) hb
/-- All came: the quotient, and what is left. -/
theorem divSt_all {b n : Nat} {ts : List Nat} (hb : 0 < b) (hn : ts.length = n) (hl : Lo W32 ts) (qs : List (Al n fun j z => z = ts.getD j 0)) (hp : places qs = desc n n) : val W32 (divSt b (List.replicate n 0) qs).1 = val W32 ts / b ∧ (divSt b (List.replicate n 0) qs).2 = val W32 ts % b := by
  have key : ∀ (k : Nat) (l : List (Al n fun j z => z = ts.getD j 0)), k ≤ n → places l = desc n k →
      (divSt b (List.replicate n 0) l).2 = val W32 ts / W32 ^ (n - k) % b ∧ ∀ j, j < n → n - 1 - k < j ∨ k = n → (divSt b (List.replicate n 0) l).1.getD j 0 = val W32 ts / b / W32 ^ j % W32 := by
    intro k
    induction k with
    | zero =>
      intro l _ hl'
      obtain rfl : l = [] := by
        cases l with
        | nil => rfl
        | cons x l => simp [places, desc] at hl'
      refine ⟨?_, fun j hj h => ?_⟩
      · have := val_lt (B := W32) (by decide) hl
        rw [hn] at this
        rw [Nat.sub_zero, Nat.div_eq_of_lt this]; simp [divSt]
      · omega
    | succ k ih =>
      intro l hk hl'
      have hne : l ≠ [] := by rintro rfl; simp [places, desc_succ] at hl'
      obtain ⟨l', x, rfl⟩ : ∃ l' x, l = l' ++ [x] := ⟨l.dropLast, l.getLast hne, (List.dropLast_concat_getLast hne).symm⟩
      obtain ⟨k', hk', hp', hx⟩ := last_place hl'
      obtain rfl : k = k' := by omega
      obtain ⟨ih1, ih2⟩ := ih l' (by omega) hp'
      have hV := x.2.2.2
      have hlen := (divSt_lo b n hb l').1
      have hz : x.1.2 = val W32 ts / W32 ^ (n - 1 - k) % W32 := by rw [hV, hx]; exact getD_val (by decide) hl _
      have hsplit : val W32 ts / W32 ^ (n - 1 - k) = val W32 ts / W32 ^ (n - k) * W32 + val W32 ts / W32 ^ (n - 1 - k) % W32 := by
        have h1 := Nat.div_add_mod (val W32 ts / W32 ^ (n - 1 - k)) W32
        rw [Nat.div_div_eq_div_mul, ← Nat.pow_succ, show (n - 1 - k).succ = n - k by omega, Nat.mul_comm] at h1
        exact h1.symm
      rw [← hz] at hsplit
      rw [divSt_snoc, ih1]
      generalize val W32 ts / W32 ^ (n - k) = H at *
      refine ⟨?_, fun j hj h => ?_⟩
      · show (H % b * 4294967296 + x.1.2) % b = _
        rw [show n - (k + 1) = n - 1 - k by omega, hsplit, Nat.add_mod, Nat.mul_mod, Nat.mod_mod, ← Nat.mul_mod, ← Nat.add_mod]
      · show ((divSt b (List.replicate n 0) l').1.set x.1.1 ((H % b * 4294967296 + x.1.2) / b)).getD j 0 = _
        by_cases hjx : j = x.1.1
        · have e : ∀ z, ((divSt b (List.replicate n 0) l').1.set x.1.1 z).getD j 0 = z := fun z => by rw [hjx]; exact getD_set_same (by rw [hlen]; exact x.2.1) z
          rw [e, Nat.div_div_eq_div_mul, Nat.mul_comm b, ← Nat.div_div_eq_div_mul, hjx, hx, hsplit]
          have h2 : H * W32 + x.1.2 = b * (H / b * W32) + (H % b * 4294967296 + x.1.2) := by
            have h3 := Nat.div_add_mod H b
            generalize H / b = A at *
            generalize H % b = R at *
            rw [← h3, Nat.add_mul, Nat.mul_assoc]
            show _ = b * (A * W32) + (R * W32 + x.1.2)
            omega
          rw [h2, Nat.mul_add_div hb, Nat.mul_add_mod_self_right, Nat.mod_eq_of_lt (div_fits (Nat.mod_lt _ hb) x.2.2.1)]
        · rw [getD_set_other _ _ (Ne.symm hjx)]
          exact ih2 j hj (by omega)
  have hlen := (divSt_lo b n hb qs).1
  obtain ⟨k1, k2⟩ := key n qs (Nat.le_refl _) hp
  have h1 := val_of_digits (B := W32) (xs := (divSt b (List.replicate n 0) qs).1) (M := val W32 ts / b) (by decide) (fun i hi => k2 i (by omega) (.inr rfl))
  refine ⟨?_, by rw [k1, Nat.sub_self, Nat.pow_zero, Nat.div_one]⟩
  rw [h1, hlen]
  apply Nat.mod_eq_of_lt
  have := val_lt (B := W32) (by decide) hl
  rw [hn] at this
  exact Nat.lt_of_le_of_lt (Nat.div_le_self _ _) this

/-- What holds between two rounds. -/
def DivI (b g b3 b6 b7 m : Nat) {n : Nat} {V : Nat → Nat → Prop} (pre : List (Al n V)) (W : World) : Prop :=
  Row W g 55 (C .u32 (divSt b (List.replicate m 0) pre).1) ∧ Boxed W b7 22 (.int .u64 ((divSt b (List.replicate m 0) pre).2 : Nat)) ∧ Boxed W b6 44 (.slice (some ⟨g, 0, none⟩) m m) ∧ Boxed W b3 55 (.int .u32 (b : Int))

set_option maxRecDepth 100000 in
set_option maxHeartbeats 2000000 in
theorem divWord_any (va : Value) (ts : List Nat) (b : Nat) (w : World) (ha : SlV w va (C .u32 ts)) (htlo : Lo W32 ts) (hxm : ts.length ≤ 100000) (hb0 : 0 < b) (hb : b < 4294967296) :
    Calls Tryd.prog 51 #[va, .int .u32 (b : Int)] w fun e w' => ∃ v1 v2, e = .returned (.tuple #[v1, v2]) ∧ Ans w.heap.size w' v1 (val W32 ts / b) ∧ Ans w.heap.size w' v2 (val W32 ts % b) ∧ Below w.heap.size w w' := by
  obtain ⟨i0, hi, hz0, hz1, hz2⟩ := info_parts Tryd.info55
  obtain ⟨m, htl⟩ : ∃ m, ts.length = m := ⟨_, rfl⟩
  obtain ⟨a, cap, rfl, q1, r1⟩ := ha.shapeC htl
  rw [htl] at hxm
  refine (callsIn_wide (n := 3)).1 ?_
  refine callsIn_of_wp_marks Tryd.func51 rfl trivial ?_ rfl
  refine wpIn_wide.2 ?_
  simp only [Tryd.ntmps51, List.size_toArray, List.length_cons, List.length_nil, Nat.reduceAdd, Nat.reduceSub, Array.replicate_succ, Array.replicate_zero, List.push_toArray, List.append_toArray, List.nil_append, List.cons_append]
  have HA := Away.mk ha
  clear ha
  go_wp2_with (at_make; refine wpList_make_full _ rfl _ _ 44 rfl w.heap.size 55 i0 _ 1 Tryd.underlying44 hi hz0 hz1 _ _ _ _ m rfl rfl rfl rfl (by rw [hz2]; omega) (by unfold maxLen; omega) (by simp) ?_)
  intro w3 hown hg3
  have hr3 := Row.ofOwn (own_made hown)
  rw [← C_zeros] at hr3
  have b3 : Boxed w3 w.heap.size 55 (.int .u32 (b : Int)) := (Boxed.new w 55 (.int .u32 (b : Int))).kept hg3 (by simp)
  have hB3 : Below w.heap.size w w3 := ((Below.refl _ w).alloc (Nat.le_refl _) _).grown hg3 (by simp) (by simp)
  have hg := hr3.lt
  have HR3 := Away.mk hr3; have HB3 := Away.mk hB3; have H3 := Away.mk b3
  clear hown hg3 hr3 hB3 b3
  go_wp2_with fail
  refine (down_any _ _ _ _).mono ?_
  rintro _ w' ⟨rfl, rfl⟩
  go_wp2
  obtain ⟨w4, hw4⟩ : ∃ w4, (w3.alloc (.cells #[.slice (some ⟨w.heap.size + 1, 0, none⟩) m m] 44)).alloc (.cells #[.int .u64 0] 22) = w4 := ⟨_, rfl⟩
  obtain ⟨g, hgg⟩ : ∃ g, w.heap.size + 1 = g := ⟨_, rfl⟩
  rw [hw4, hgg]
  have hsz4 : w4.heap.size = w3.heap.size + 1 + 1 := by rw [← hw4]; simp
  have hB34 : Below w3.heap.size w3 w4 := by rw [← hw4]; exact ((Below.refl _ w3).alloc (Nat.le_refl _) _).alloc (by simp) _
  have b6 : Boxed w4 w3.heap.size 44 (.slice (some ⟨g, 0, none⟩) m m) := by rw [← hw4, ← hgg]; exact (Boxed.new w3 _ _).alloc _
  have b7 : Boxed w4 (w3.heap.size + 1) 22 (.int .u64 0) := by rw [← hw4]; have := Boxed.new (w3.alloc (.cells #[.slice (some ⟨w.heap.size + 1, 0, none⟩) m m] 44)) 22 (.int .u64 0); rwa [World.size_alloc] at this
  have b3 := H3.out.kept (grown_of_below hB34 none) (by simp)
  have hr4 := HR3.out.belowS hB34
  have hB04 : Below w.heap.size w w4 := HB3.out.trans (hB34.mono HB3.out.size)
  have hsq4 := HA.out.below hB04
  have hown := HA.out.own
  have hS := Seen.of hsq4 htl htlo
  rw [hsz4] at hS
  rw [hgg] at hr4 hg
  have hg1 : g < w3.heap.size := hg
  have hg2 : w.heap.size < g := by omega
  clear hw4 hB34 hsq4 HR3 hg hgg H3
  refine range_down w (w3.heap.size + 1 + 1) m cap a (fun j z => z = ts.getD j 0) (by unfold maxLen; omega) rfl rfl (hB04.alloc (by omega) _)
    (fun W hW => hS.below hW (by simp; omega) (fun b off hp e => by have := hown (by rw [C_length]; omega) b (by rw [e]; rfl); simp; omega))
    (fun pre W => DivI b g w.heap.size w3.heap.size (w3.heap.size + 1) m pre W) (fun _ _ => False)
    (fun s A B row hs hg hr => ⟨Row.turn hs.1 hg hr, Boxed.turn hs.2.1 hg hr, Boxed.turn hs.2.2.1 hg hr, Boxed.turn hs.2.2.2 hg hr⟩)
    (fun _ _ _ _ hs _ _ => hs)
    ⟨hr4.alloc _, b7.alloc _, b6.alloc _, b3.alloc _⟩
    (fun i z => { tmps := #[.slice a m cap, .int .u32 b, undef, .pointer (some ⟨w.heap.size, 0, none⟩), .slice none 0 0, .slice none 0 0, .pointer (some ⟨w3.heap.size, 0, none⟩), .pointer (some ⟨w3.heap.size + 1, 0, none⟩), .int .i64 (i : Int), .int .u32 (z : Int), .slice a m cap, .int .i64 m, ?t12, .slice a m cap, .func (.func 70) #[] #[.pointer (some ⟨w3.heap.size + 1 + 1, 0, none⟩)], .int .i64 (i : Int), .int .u32 (z : Int), undef, undef, undef, undef, undef, undef, undef, undef, undef, undef, undef, undef, undef, undef, undef, undef, undef, undef, undef, undef, undef], defers := [] }) ?assign ?body ?done ?stop
  case assign =>
    intro l i z W K hK
    gi_wp2
    exact hK
  case body =>
    rintro l pre x i z W R HX hii hz HV ⟨hr, hb7, hb6, hb3⟩ hB HN' HR'
    have hb7 : Boxed W (w3.heap.size + 1) 22 _ := hb7
    have hb6 : Boxed W w3.heap.size 44 _ := hb6
    have hb3 : Boxed W w.heap.size 55 _ := hb3
    obtain ⟨hsl, hslo, hs2⟩ := divSt_lo b m hb0 pre
    have c7 := hb7.cell; have f7 := hb7.frozen
    clear b6 b7 b3 hr4 hS
    obtain ⟨ab, hab⟩ : ∃ ab, (divSt b (List.replicate m 0) pre).2 = ab := ⟨_, rfl⟩
    rw [hab] at c7 hs2
    have hab32 : ab < 4294967296 := by omega
    have hor := or64 ab z hab32 hz
    have hfit := div_fits hs2 hz
    have hs64 : ab * 4294967296 + z < 18446744073709551616 := by omega
    obtain ⟨T, hT⟩ : ∃ T, ab * 4294967296 + z = T := ⟨_, rfl⟩
    rw [hT] at hor hfit hs64
    gi_wp2
    obtain ⟨W1, hW1⟩ : ∃ W1, W.setCell ⟨w3.heap.size + 1, 0, none⟩ (.int .u64 (T : Int)) = W1 := ⟨_, rfl⟩
    rw [hW1]
    have hr1 : Row W1 g 55 (C .u32 (divSt b (List.replicate m 0) pre).1) := by rw [← hW1]; exact hr.other _ (by omega)
    have b71 : Boxed W1 (w3.heap.size + 1) 22 (.int .u64 (T : Int)) := by rw [← hW1]; exact hb7.set _
    have b61 : Boxed W1 w3.heap.size 44 (.slice (some ⟨g, 0, none⟩) m m) := by rw [← hW1]; exact (Boxed.row hb6).other _ (by omega)
    have b31 : Boxed W1 w.heap.size 55 (.int .u32 (b : Int)) := by rw [← hW1]; exact (Boxed.row hb3).other _ (by omega)
    have hko : KeepsOthers W W1 := by rw [← hW1]; exact KeepsOthers.setCell _ _ _
    have hB1 : Below w.heap.size w W1 := by rw [← hW1]; exact hB.setCell (p := ⟨w3.heap.size + 1, 0, none⟩) (by simp; omega) _
    have hoth : ∀ k, k ≠ w3.heap.size + 1 → W1.heap[k]? = W.heap[k]? := fun k hk => by rw [← hW1]; exact Below.heap_setCell W ⟨w3.heap.size + 1, 0, none⟩ _ k hk
    have c71 := b71.cell; have c61 := b61.cell; have c31 := b31.cell
    have hco := (hr1.cell i).trans (C_get _ (by omega))
    have hfo := hr1.frozen i
    have ewb : IntKind.u64.wrap (b : Int) = (b : Int) := by rw [wrapU]; omega
    have hbz : (b : Int) ≠ 0 := by omega
    clear hr hb7 hb6 hb3 c7 f7 hor hW1
    refine region_round (S := fun w' => w'.cell? ⟨w3.heap.size, 0, none⟩ = some (.slice (some ⟨g, 0, none⟩) m m) ∧ w'.cell? ⟨w3.heap.size + 1, 0, none⟩ = some (.int .u64 (T : Int)) ∧ w'.cell? ⟨w.heap.size, 0, none⟩ = some (.int .u32 (b : Int))) (by kernel_rfl) (by kernel_rfl) (⟨c61, c71, c31⟩) (fun hHeld => ?_)
    refine wpAnyH_takeL (i := 0) (v := ?v0) rfl (by kernel_rfl) (by kernel_rfl) (by kernel_rfl) (fun _ _ _ h => h) (by rfl) ?h0 (by assumption) ?_
    case h0 => intro w hSw; go_simp <;> with_reducible rfl
    simp only [Act.put, List.setIfInBounds_toArray, List.set_cons_zero, List.set_cons_succ]
    refine wpAnyH_takeL (i := 1) (v := ?v1) rfl (by kernel_rfl) (by kernel_rfl) (by kernel_rfl) (fun _ _ _ h => h) (by rfl) ?h1 (by assumption) ?_
    case h1 => intro w hSw; go_simp <;> with_reducible rfl
    simp only [Act.put, List.setIfInBounds_toArray, List.set_cons_zero, List.set_cons_succ]
    refine wpAnyH_takeL (i := 2) (v := ?v2) rfl (by kernel_rfl) (by kernel_rfl) (by kernel_rfl) (fun _ _ _ h => h) (by rfl) ?h2 (by assumption) ?_
    case h2 => intro w hSw; go_simp <;> with_reducible rfl
    simp only [Act.put, List.setIfInBounds_toArray, List.set_cons_zero, List.set_cons_succ]
    refine wpAnyH_takeL (i := 3) (v := ?v3) rfl (by kernel_rfl) (by kernel_rfl) (by kernel_rfl) (fun _ _ _ h => h) (by rfl) ?h3 (by assumption) ?_
    case h3 => intro w hSw; go_simp <;> with_reducible rfl
    simp only [Act.put, List.setIfInBounds_toArray, List.set_cons_zero, List.set_cons_succ]
    refine wpAnyH_takeL (i := 4) (v := ?v4) rfl (by kernel_rfl) (by kernel_rfl) (by kernel_rfl) (fun _ _ _ h => h) (by rfl) ?h4 (by assumption) ?_
    case h4 => intro w hSw; go_simp <;> with_reducible rfl
    simp only [Act.put, List.setIfInBounds_toArray, List.set_cons_zero, List.set_cons_succ]
    refine wpAnyH_takeL (i := 5) (v := ?v5) rfl (by kernel_rfl) (by kernel_rfl) (by kernel_rfl) (fun _ _ _ h => h) (by rfl) ?h5 (by assumption) ?_
    case h5 => intro w hSw; go_simp; rw [if_neg (Nat.ne_of_gt hb0)]
    simp only [Act.put, List.setIfInBounds_toArray, List.set_cons_zero, List.set_cons_succ]
    refine wpAnyH_takeL (i := 6) (v := ?v6) rfl (by kernel_rfl) (by kernel_rfl) (by kernel_rfl) (fun _ _ _ h => h) (by rfl) ?h6 (by assumption) ?_
    case h6 => intro w hSw; go_simp <;> with_reducible rfl
    simp only [Act.put, List.setIfInBounds_toArray, List.set_cons_zero, List.set_cons_succ]
    refine wpAnyH_takeL (i := 7) (v := ?v7) rfl (by kernel_rfl) (by kernel_rfl) (by kernel_rfl) (fun _ _ _ h => h) (by rfl) ?h7 (by assumption) ?_
    case h7 => intro w hSw; go_simp <;> with_reducible rfl
    simp only [Act.put, List.setIfInBounds_toArray, List.set_cons_zero, List.set_cons_succ]
    refine allReadyH_oneL (i := 8) (by kernel_rfl) rfl (by rfl) (fun K hK => ?_)
    go_simp
    refine hK.out _ _ (⟨(((Boxed.row b61).other _ (by omega)).cell 0), (((Boxed.row b71).other _ (by omega)).cell 0), (((Boxed.row b31).other _ (by omega)).cell 0)⟩) (fun hHeld => ?_)
    clear hK K
    refine wpAnyH_done (by kernel_rfl) ?_ _
    refine Nrm.normal ?_
    obtain ⟨Q1, hQ1⟩ : ∃ Q1 : Nat, T / b = Q1 := ⟨_, rfl⟩
    rw [hQ1] at hfit
    have eQ : (T : Int) / (b : Int) = (Q1 : Int) := by rw [← hQ1]; simp
    have eV : IntKind.u32.wrap (IntKind.u64.wrap ((T : Int) / (b : Int))) = (Q1 : Int) := by
      rw [eQ, wrapU, wrap32]; omega
    rw [eV]
    obtain ⟨W2, hW2⟩ : ∃ W2, (W1.setCell ⟨g, i, none⟩ (.int .u32 (Q1 : Int))).drew = W2 := ⟨_, rfl⟩
    rw [hW2]
    have hr2 : Row W2 g 55 (C .u32 ((divSt b (List.replicate m 0) pre).1.set i Q1)) := by rw [← hW2, C_set]; exact hr1.set i _
    have b72 : Boxed W2 (w3.heap.size + 1) 22 (.int .u64 (T : Int)) := by rw [← hW2]; exact (Boxed.row b71).other _ (by omega)
    have b62 : Boxed W2 w3.heap.size 44 (.slice (some ⟨g, 0, none⟩) m m) := by rw [← hW2]; exact (Boxed.row b61).other _ (by omega)
    have b32 : Boxed W2 w.heap.size 55 (.int .u32 (b : Int)) := by rw [← hW2]; exact (Boxed.row b31).other _ (by omega)
    have hko2 : KeepsOthers W W2 := by rw [← hW2]; exact (hko.trans (KeepsOthers.setCell _ _ _)).trans (KeepsOthers.drew _)
    have hB2 : Below w.heap.size w W2 := by rw [← hW2]; exact (hB1.setCell (p := ⟨g, i, none⟩) (by simp; omega) _).drew
    have hoth2 : ∀ k, k ≠ w3.heap.size + 1 → k ≠ g → W2.heap[k]? = W.heap[k]? := fun k hk hk2 => by rw [← hW2]; exact (Below.heap_setCell W1 ⟨g, i, none⟩ _ k hk2).trans (hoth k hk)
    have c72 := b72.cell; have f72 := b72.frozen; have c32 := b32.cell
    have HRow := Away.mk hr2; have H7 := Away.mk b72; have H6 := Away.mk b62; have H3 := Away.mk b32; have HK := Away.mk hko2; have HB2 := Away.mk hB2; have HO := Away.mk hoth2; have HQ := Away.mk hQ1; have HAB := Away.mk hab; have HTT := Away.mk hT
    clear hW2 hr2 b72 b62 b32 hko2 hB2 hoth2 hr1 b71 b61 b31 hko hB1 hoth c71 c61 c31 hco hfo eV eQ hHeld hQ1 hab hT
    gi_wp2
    refine HN'.out _ _ (HK.out.trans (KeepsOthers.setCell _ _ _)) (fun hse => hse.keep ?_ ?_) ⟨?_, ?_, ?_, ?_⟩ (HB2.out.setCell (p := ⟨w3.heap.size + 1, 0, none⟩) (by simp; omega) _)
    · rw [Below.heap_setCell _ _ _ _ (show w3.heap.size + 1 + 1 ≠ w3.heap.size + 1 by omega)]
      exact HO.out _ (by omega) (by omega)
    · intro b' off hp e
      have hb' := hown (by rw [C_length]; omega) b' (by rw [e]; rfl)
      rw [Below.heap_setCell _ _ _ _ (show b' ≠ w3.heap.size + 1 by omega)]
      exact HO.out _ (by omega) (by omega)
    · rw [divSt_snoc, HX.out.1, HX.out.2, HAB.out, HTT.out, HQ.out]
      exact HRow.out.other _ (by omega)
    · rw [divSt_snoc, HX.out.2, HAB.out, HTT.out]
      exact H7.out.set _
    · exact (Boxed.row H6.out).other _ (by omega)
    · exact (Boxed.row H3.out).other _ (by omega)
  case done =>
    rintro D qs W hD hp ⟨hr, hb7, hb6, hb3⟩ hB hK
    obtain ⟨hsl, hslo, hs2⟩ := divSt_lo b m hb0 qs
    have hb6 : Boxed W w3.heap.size 44 _ := hb6
    have hb7 : Boxed W (w3.heap.size + 1) 22 _ := hb7
    obtain ⟨hval, hrest⟩ := divSt_all hb0 htl htlo qs hp
    rw [hrest] at hb7 hs2
    obtain ⟨rem, hrem⟩ : ∃ rem, val W32 ts % b = rem := ⟨_, rfl⟩
    rw [hrem] at hb7 hs2
    have c6 := hb6.cell
    have c7 := hb7.cell
    have HT := Away.mk (fun W' (h : Below W.heap.size W W') => trimmed_new w.heap.size g _ W' (hr.belowS h) (by omega) hslo (by omega))
    rw [hval, hsl] at HT
    have HK := Away.mk hK; have HREM := Away.mk hrem; have HBW := Away.mk hB
    have hB6 : ∀ W', Below W.heap.size W W' → W'.cell? ⟨w3.heap.size, 0, none⟩ = some (.slice (some ⟨g, 0, none⟩) m m) ∧ W'.cell? ⟨w3.heap.size + 1, 0, none⟩ = some (.int .u64 (rem : Int)) := fun W' h => ⟨(h.cell (p := ⟨w3.heap.size, 0, none⟩) hb6.lt).trans c6, (h.cell (p := ⟨w3.heap.size + 1, 0, none⟩) hb7.lt).trans c7⟩
    have HB6 := Away.mk hB6
    clear hr hb7 hb6 hb3 hval hp hS hr4 b6 b7 b3 hK hB6 hrest hrem
    go_wp2
    refine wp_region_noPanic ?_
    refine wp_region_held_drew (S := fun w' => w'.cell? ⟨w3.heap.size, 0, none⟩ = some (.slice (some ⟨g, 0, none⟩) m m) ∧ w'.cell? ⟨w3.heap.size + 1, 0, none⟩ = some (.int .u64 (rem : Int))) (by kernel_rfl) (⟨c6, c7⟩) (fun hHeld => ?_)
    refine wpAnyH_takeL (i := 0) (v := ?v0b) rfl (by kernel_rfl) (by kernel_rfl) (by kernel_rfl) (fun _ _ _ h => h) (by rfl) ?h0b (by assumption) ?_
    case h0b => intro w hSw; go_simp <;> with_reducible rfl
    simp only [Act.put, List.setIfInBounds_toArray, List.set_cons_zero, List.set_cons_succ]
    refine wpAnyH_takeL (i := 2) (v := ?v2b) rfl (by kernel_rfl) (by kernel_rfl) (by kernel_rfl) (fun _ _ _ h => h) (by rfl) ?h2b (by assumption) ?_
    case h2b => intro w hSw; go_simp <;> with_reducible rfl
    simp only [Act.put, List.setIfInBounds_toArray, List.set_cons_zero, List.set_cons_succ]
    refine allReadyH_oneL (i := 1) (by kernel_rfl) rfl (by rfl) (fun K hK => ?_)
    go_simp
    refine (HT.out _ (Below.refl _ W).drew).mono ?_
    rintro _ w5 ⟨v1, rfl, hans1, hb5⟩
    have hb5 : Below W.heap.size W w5 := ⟨hb5.os, hb5.tape, hb5.output, hb5.size, hb5.block⟩
    refine hK.out _ _ (HB6.out _ hb5) (fun hHeld => ?_)
    clear hK K
    refine allReadyH_oneL (i := 3) (by kernel_rfl) rfl (by rfl) (fun K hK => ?_)
    go_simp
    refine (from_any rem (by omega) _).mono ?_
    rintro _ w6 ⟨v2, rfl, hans2, hb6⟩
    have hb6' : Below W.heap.size W w6 := hb5.trans (hb6.mono hb5.size)
    refine hK.out _ _ (HB6.out _ hb6') (fun hHeld => ?_)
    clear hK K
    refine wpAnyH_takeL (i := 4) (v := ?v4b) rfl (by kernel_rfl) (by kernel_rfl) (by kernel_rfl) (fun _ _ _ h => h) (by rfl) ?h4b (by assumption) ?_
    case h4b => intro w hSw; go_simp <;> with_reducible rfl
    simp only [Act.put, List.setIfInBounds_toArray, List.set_cons_zero, List.set_cons_succ]
    refine wpAnyH_takeL (i := 5) (v := ?v5b) rfl (by kernel_rfl) (by kernel_rfl) (by kernel_rfl) (fun _ _ _ h => h) (by rfl) ?h5b (by assumption) ?_
    case h5b => intro w hSw; go_simp <;> with_reducible rfl
    simp only [Act.put, List.setIfInBounds_toArray, List.set_cons_zero, List.set_cons_succ]
    refine wpAnyH_done (by kernel_rfl) ?_ _
    refine NoPanic.normal ?_
    have hans1 := hans1.below (B' := 0) hb6
    have hans2 := hans2.base (Nat.le_trans HBW.out.size hb5.size)
    have hD' : D < W.heap.size := (Array.getElem?_eq_some_iff.1 HK.out).1
    have hK' : w6.heap[D]? = some (.deferred (some [])) := (hb6'.block D hD').trans HK.out
    have hB6 : Below w.heap.size w w6 := HBW.out.trans (hb6'.mono HBW.out.size)
    go_wp2
    refine ⟨by simp, .inl ⟨_, _, rfl, run_takeDeferred hK', ?_⟩⟩
    have hturn : ∀ r, some D = some r → ∃ o : Obj, w6.heap[r]? = some o ∧ o.isCells = false := fun r e => by cases e; exact ⟨_, hK', rfl⟩
    refine ⟨.tuple #[v1, v2], ?_, v1, v2, rfl, hans1.turn (grownBy_putObj' _ D (.deferred none)) hturn, ?_, below_shut (w := w) hB6 (by simp at hD; omega) hK'⟩
    · simp [results, Tryd.f51, go_sem]
    · have := hans2.turn (grownBy_putObj' _ D (.deferred none)) hturn
      rwa [HREM.out]
  case stop =>
    rintro D k pre W hD hk hp hx
    exact hx.elim
end Go.Proofs.YtdpahahfcdldcaaDoor
