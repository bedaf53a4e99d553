/-
  Contract of Shr, over this seat's translation. Conditions: at most 100000 words.
-/
import Derived.Test.YtdpahahfcdldcaaDoorNatH
import Derived.Test.YtdpahahfcdldcaaDoorKit5
namespace Go.Proofs.YtdpahahfcdldcaaDoor
open Go.RowKit Go.Shelf
set_option linter.unusedVariables false
attribute [local go_sem] Oper.semAt_some

/-- What a loop from the highest word down leaves: the words, and the last word. -/
def shrSt (r : Nat) (z : List Nat) {n : Nat} {V : Nat → Nat → Prop} (pre : List (Al n V)) : List Nat × Nat := pre.foldl (fun s x => (s.1.set x.1.1 ((s.2 * 4294967296 + x.1.2) / 2 ^ r % 4294967296), x.1.2)) (z, 0)
theorem shrSt_snoc (r : Nat) (z : List Nat) {n : Nat} {V : Nat → Nat → Prop} (pre : List (Al n V)) (x : Al n V) : shrSt r z (pre ++ [x]) = ((shrSt r z pre).1.set x.1.1 (((shrSt r z pre).2 * 4294967296 + x.1.2) / 2 ^ r % 4294967296), x.1.2) := by simp [shrSt]

/-- A block of cells stays in a turn of what is no cells. -/
theorem Row.turn {A B : World} {g : Nat} {e : TypeId} {us : List Value} {row : Option Nat} (h : Row A g e us) (hg : A.grownBy B row) (hr : ∀ r, row = some r → ∃ o : Obj, A.heap[r]? = some o ∧ o.isCells = false) : Row B g e us :=
  h.grown hg (fun e => by
    obtain ⟨o, ho, hc⟩ := hr g e.symm
    rw [show A.heap[g]? = _ from h] at ho; cases ho; cases hc)
theorem Boxed.turn {A B : World} {b : Nat} {t : TypeId} {u : Value} {row : Option Nat} (h : Boxed A b t u) (hg : A.grownBy B row) (hr : ∀ r, row = some r → ∃ o : Obj, A.heap[r]? = some o ∧ o.isCells = false) : Boxed B b t u :=
  Row.turn (us := [u]) h hg hr
theorem Boxed.row {W : World} {b : Nat} {t : TypeId} {u : Value} (h : Boxed W b t u) : Row W b t [u] := h
theorem or64 (x y : Nat) (hx : x < 4294967296) (hy : y < 4294967296) : bits .or .u64 ((x : Int) * 4294967296) (y : Int) = ((x * 4294967296 + y : Nat) : Int) := by
  rw [show (x : Int) * 4294967296 = ((x * 4294967296 : Nat) : Int) by simp, u64_or_nat _ _ (by omega) (by omega)]
  have := Nat.two_pow_add_eq_or_of_lt (i := 32) (show y < 2 ^ 32 by omega) x
  rw [Nat.mul_comm] at this
  rw [show (4294967296 : Nat) = 2 ^ 32 from rfl, ← this]

theorem getD_set_same {xs : List Nat} {i : Nat} (h : i < xs.length) (z : Nat) : (xs.set i z).getD i 0 = z := by simp [List.getD, h]
theorem SlV.turn {A B : World} {v : Value} {xs : List Value} {row : Option Nat} (h : SlV A v xs) (hg : A.grownBy B row) (hr : ∀ r, row = some r → ∃ o : Obj, A.heap[r]? = some o ∧ o.isCells = false) : SlV B v xs := by
  obtain ⟨a, cap, rfl, h1, h2, h3, h4⟩ := h
  refine ⟨a, cap, rfl, h1, h2, h3, fun hp => ?_⟩
  obtain ⟨b, off, e, h5⟩ := h4 hp
  exact ⟨b, off, e, fun i u hu => cell_kept (h5 i u hu) hg hr⟩
theorem Ans.turn {A B : World} {v : Value} {N b : Nat} {row : Option Nat} (h : Ans b A v N) (hg : A.grownBy B row) (hr : ∀ r, row = some r → ∃ o : Obj, A.heap[r]? = some o ∧ o.isCells = false) : Ans b B v N := by
  obtain ⟨zs, h1, h2, h3⟩ := h
  refine ⟨zs, h1, h2.turn hg hr, fun hp => ?_⟩
  obtain ⟨g, rest, e, hb, hrow⟩ := h3 hp
  exact ⟨g, rest, e, hb, Row.turn hrow hg hr⟩
theorem Seen.keep {V : Nat → Nat → Prop} {Bs : Nat} {a : Option Addr} {n cap : Nat} {W W' : World} (h : Seen V Bs a n cap W) (h1 : W'.heap[Bs]? = W.heap[Bs]?) (h2 : ∀ b off, 0 < n → a = some ⟨b, off, none⟩ → W'.heap[b]? = W.heap[b]?) : Seen V Bs a n cap W' :=
  ⟨(World.cell?_of_block (a := ⟨Bs, 0, none⟩) h1).trans h.1, fun j hj => by
    obtain ⟨b, off, z, e, hz, hV, hc⟩ := h.2 j hj
    exact ⟨b, off, z, e, hz, hV, (World.cell?_of_block (a := ⟨b, off + j, none⟩) (h2 b off (by omega) e)).trans hc⟩⟩
theorem wrap32 (x : Int) : IntKind.u32.wrap x = x % 4294967296 := by simp [IntKind.wrap, IntKind.signed, IntKind.bits]
/-- What holds between two rounds. -/
def ShrI (w : World) (r g b6 b7 b8 m : Nat) {n : Nat} {V : Nat → Nat → Prop} (pre : List (Al n V)) (W : World) : Prop :=
  Row W g 55 (C .u32 (shrSt r (List.replicate m 0) pre).1) ∧ Boxed W b8 22 (.int .u64 ((shrSt r (List.replicate m 0) pre).2 : Nat)) ∧ Boxed W b7 44 (.slice (some ⟨g, 0, none⟩) m m) ∧ Boxed W b6 3 (.int .i64 (r : Int))
theorem shrSt_lo (r m : Nat) {n : Nat} {V : Nat → Nat → Prop} (pre : List (Al n V)) : (shrSt r (List.replicate m 0) pre).1.length = m ∧ Lo W32 (shrSt r (List.replicate m 0) pre).1 ∧ (shrSt r (List.replicate m 0) pre).2 < 4294967296 := by
  have h : ∀ (l : List (Al n V)) (s : List Nat × Nat), s.1.length = m → Lo W32 s.1 → s.2 < 4294967296 →
      (l.foldl (fun s x => (s.1.set x.1.1 ((s.2 * 4294967296 + x.1.2) / 2 ^ r % 4294967296), x.1.2)) s).1.length = m ∧ Lo W32 (l.foldl (fun s x => (s.1.set x.1.1 ((s.2 * 4294967296 + x.1.2) / 2 ^ r % 4294967296), x.1.2)) s).1 ∧ (l.foldl (fun s x => (s.1.set x.1.1 ((s.2 * 4294967296 + x.1.2) / 2 ^ r % 4294967296), x.1.2)) s).2 < 4294967296 := by
    intro l
    induction l with
    | nil => intro s h1 h2 h3; exact ⟨h1, h2, h3⟩
    | cons x l ih => intro s h1 h2 h3; exact ih _ (by simp [h1]) (h2.set _ _ (Nat.mod_lt _ (by decide))) x.2.2.1
  exact h pre _ (by simp) (Lo.zeros (by decide) _) (by show 0 < 4294967296; decide)
/-- All came: what is left. -/
theorem shrSt_all {r n : Nat} {ts : List Nat} (hn : ts.length = n) (hl : Lo W32 ts) (hr : r < 32) (qs : List (Al n fun j z => z = ts.getD j 0)) (hp : places qs = desc n n) : val W32 (shrSt r (List.replicate n 0) qs).1 = val W32 ts / 2 ^ r := by
  have key : ∀ (k : Nat) (l : List (Al n fun j z => z = ts.getD j 0)), k ≤ n → places l = desc n k →
      (shrSt r (List.replicate n 0) l).2 = (if k = 0 then 0 else ts.getD (n - k) 0) ∧ ∀ j, j < n → n - 1 - k < j ∨ k = n → (shrSt r (List.replicate n 0) l).1.getD j 0 = val W32 ts / 2 ^ r / W32 ^ j % W32 := by
    intro k
    induction k with
    | zero =>
      intro l _ hl'
      obtain rfl : l = [] := by
        cases l with
        | nil => rfl
        | cons x l => simp [places, desc] at hl'
      refine ⟨by simp [shrSt], fun j hj h => ?_⟩
      omega
    | succ k ih =>
      intro l hk hl'
      have hne : l ≠ [] := by rintro rfl; simp [places, desc_succ] at hl'
      obtain ⟨l', x, rfl⟩ : ∃ l' x, l = l' ++ [x] := ⟨l.dropLast, l.getLast hne, (List.dropLast_concat_getLast hne).symm⟩
      obtain ⟨k', hk', hp', hx⟩ := last_place hl'
      obtain rfl : k = k' := by omega
      obtain ⟨ih1, ih2⟩ := ih l' (by omega) hp'
      have hV := x.2.2.2
      have hlen := (shrSt_lo r n l').1
      rw [shrSt_snoc]
      refine ⟨?_, fun j hj h => ?_⟩
      · rw [if_neg (by omega)]
        show x.1.2 = _
        rw [hV, hx]; congr 1; omega
      · show ((shrSt r (List.replicate n 0) l').1.set x.1.1 _).getD j 0 = _
        by_cases hjx : j = x.1.1
        · have e : ∀ z, ((shrSt r (List.replicate n 0) l').1.set x.1.1 z).getD j 0 = z := fun z => by rw [hjx]; exact getD_set_same (by rw [hlen]; exact x.2.1) z
          rw [e, ih1, hV, ← hjx]
          have habove : (if k = 0 then 0 else ts.getD (n - k) 0) = val W32 ts / W32 ^ (j + 1) % W32 := by
            rw [← getD_val (by decide) hl]
            split
            · rw [getD_past (by omega)]
            · congr 1; omega
          rw [habove, getD_val (B := W32) (by decide) hl j, Nat.add_comm, Nat.mul_comm]
          have h2 := two_words (B := W32) (val W32 ts) j
          rw [show (4294967296 : Nat) = W32 from rfl, h2, shr_math (B := W32) (Nat.pow_pos (by decide)) (by decide) (pow_split (r := r) (by omega)), Nat.div_div_eq_div_mul, Nat.div_div_eq_div_mul, Nat.mul_comm]
        · rw [getD_set_other _ _ (Ne.symm hjx)]
          exact ih2 j hj (by omega)
  have hlen := (shrSt_lo r n qs).1
  have h1 := val_of_digits (B := W32) (xs := (shrSt r (List.replicate n 0) qs).1) (M := val W32 ts / 2 ^ r) (by decide) (fun i hi => (key n qs (Nat.le_refl _) hp).2 i (by omega) (.inr rfl))
  rw [h1, hlen]
  apply Nat.mod_eq_of_lt
  have := val_lt (B := W32) (by decide) hl
  rw [hn] at this
  exact Nat.lt_of_le_of_lt (Nat.div_le_self _ _) this

set_option maxRecDepth 100000 in
set_option maxHeartbeats 2000000 in
theorem shr_any (va : Value) (xs : List Nat) (ni : Int) (w : World) (ha : SlV w va (C .u32 xs)) (hx : Lo W32 xs) (hxm : xs.length ≤ 100000) (hn : ni ≤ 9223372036854775807) :
    Calls Tryd.prog 52 #[va, .int .i64 ni] w fun e w' => ∃ v', e = .returned v' ∧ Ans w.heap.size w' v' (val W32 xs / 2 ^ ni.toNat) ∧ Below w.heap.size w w' := by
  obtain ⟨i0, hi, hz0, hz1, hz2⟩ := info_parts Tryd.info55
  obtain ⟨n, hmax, hnn⟩ : ∃ n : Nat, max ni 0 = (n : Int) ∧ ni.toNat = n := ⟨ni.toNat, by omega, rfl⟩
  have hn63 : (n : Int) ≤ 9223372036854775807 := by omega
  rw [hnn]
  obtain ⟨q, hq⟩ : ∃ q, n / 32 = q := ⟨_, rfl⟩
  obtain ⟨r, hr⟩ : ∃ r, n % 32 = r := ⟨_, rfl⟩
  have hnq : n = 32 * q + r := by omega
  have hr32 : r < 32 := by omega
  have e1 : (n : Int) / 32 = (q : Int) := by omega
  have e2 : (n : Int) % 32 = (r : Int) := by omega
  have HN := Away.mk hnq
  clear hq hr hnq hnn
  refine (callsIn_wide (n := 3)).1 ?_
  refine callsIn_of_wp_marks Tryd.func52 rfl trivial ?_ rfl
  refine wpIn_wide.2 ?_
  simp only [Tryd.ntmps52, List.size_toArray, List.length_cons, List.length_nil, Nat.reduceAdd, Nat.reduceSub, Array.replicate_succ, Array.replicate_zero, List.push_toArray, List.append_toArray, List.nil_append, List.cons_append]
  go_wp2_with fail
  refine (trimmed_read va xs w ha hx (by omega)).mono ?_
  rintro _ w2 ⟨v1, zs, rfl, hI1, hl1, hs1, hb02⟩
  obtain ⟨n1, hn1⟩ : ∃ n, zs.length = n := ⟨_, rfl⟩
  obtain ⟨a1, c1, rfl, q1, r1⟩ := hs1.shapeC hn1
  have HS1 := Away.mk hs1; have HI1 := Away.mk hI1; have HB := Away.mk hb02
  clear ha hs1 hI1 hb02
  by_cases hqn : n1 ≤ q
  · have d1 : decide ((n1 : Int) ≤ (q : Int)) = true := decide_eq_true (by omega)
    go_wp2
    have hz : val W32 xs / 2 ^ n = 0 := by
      apply Nat.div_eq_of_lt
      have h1 := HI1.out.val_lt (by decide) (show zs.length ≤ q by omega)
      rw [pow32] at h1
      exact Nat.lt_of_lt_of_le h1 (Nat.pow_le_pow_right (by decide) (by rw [HN.out]; omega))
    refine ⟨_, results_tmp rfl _ _ _, _, rfl, ?_, HB.out.alloc HB.out.size _⟩
    rw [hz]
    exact Ans.nil _ _
  · have d1 : decide (n1 ≤ q) = false := decide_eq_false hqn
    go_wp2_with (at_make; refine wpList_make_full _ rfl _ _ 44 rfl w.heap.size 55 i0 _ 1 Tryd.underlying44 hi hz0 hz1 _ _ _ _ (n1 - q) rfl rfl (by omega) (by omega) (by rw [hz2]; omega) (by unfold maxLen; omega) (by have := HB.out.size; simp; omega) ?_)
    intro w3 hown hg3
    have hr3 := Row.ofOwn (own_made hown)
    rw [← C_zeros] at hr3
    have HR3 := Away.mk hr3; have HG3 := Away.mk hg3
    clear hown hg3 hr3
    have hsq := HS1.out.cut q (n1 - q) (by omega)
    rw [← C_drop, ← C_take, List.take_of_length_le (by rw [List.length_drop]; omega)] at hsq
    have hg := HR3.out.lt
    have hB3 : Below w2.heap.size w2 w3 := ((Below.refl _ w2).alloc (Nat.le_refl _) _).grown HG3.out (by simp) (by simp)
    have b6 : Boxed w3 w2.heap.size 3 (.int .i64 (r : Int)) := (Boxed.new w2 3 (.int .i64 (r : Int))).kept HG3.out (by simp)
    go_wp2_with fail
    refine (down_any _ _ _ _).mono ?_
    rintro _ w' ⟨rfl, rfl⟩
    go_wp2
    generalize Option.map (fun x => x.add q) a1 = a2 at *
    obtain ⟨w4, hw4⟩ : ∃ w4, (w3.alloc (.cells #[.slice (some ⟨w2.heap.size + 1, 0, none⟩) (n1 - q) (n1 - q)] 44)).alloc (.cells #[.int .u64 0] 22) = w4 := ⟨_, rfl⟩
    rw [hw4]
    obtain ⟨m, hm⟩ : ∃ m, n1 - q = m := ⟨_, rfl⟩
    obtain ⟨ts, hts⟩ : ∃ ts, zs.drop q = ts := ⟨_, rfl⟩
    obtain ⟨c2, hc2⟩ : ∃ c2, c1 - q = c2 := ⟨_, rfl⟩
    obtain ⟨g, hgg⟩ : ∃ g, w2.heap.size + 1 = g := ⟨_, rfl⟩
    have hsz4 : w4.heap.size = w3.heap.size + 1 + 1 := by rw [← hw4]; simp
    have hB34 : Below w3.heap.size w3 w4 := by rw [← hw4]; exact ((Below.refl _ w3).alloc (Nat.le_refl _) _).alloc (by simp) _
    have b7 : Boxed w4 w3.heap.size 44 (.slice (some ⟨w2.heap.size + 1, 0, none⟩) (n1 - q) (n1 - q)) := by rw [← hw4]; exact (Boxed.new w3 _ _).alloc _
    have b8 : Boxed w4 (w3.heap.size + 1) 22 (.int .u64 0) := by rw [← hw4]; have := Boxed.new (w3.alloc (.cells #[.slice (some ⟨w2.heap.size + 1, 0, none⟩) (n1 - q) (n1 - q)] 44)) 22 (.int .u64 0); rwa [World.size_alloc] at this
    have b6 := b6.kept (grown_of_below hB34 none) (by simp)
    have hr4 := HR3.out.belowS hB34
    have hsz3 : w2.heap.size + 2 ≤ w3.heap.size := by omega
    have hB24 : Below w2.heap.size w2 w4 := hB3.trans (hB34.mono hB3.size)
    have hB04 : Below w.heap.size w w4 := HB.out.trans (hB24.mono HB.out.size)
    have hwsz := HB.out.size
    have hsq4 := hsq.below hB24
    have htl : ts.length = m := by rw [← hts, List.length_drop]; omega
    have htlo : Lo W32 ts := by rw [← hts]; exact HI1.out.2.1.drop q
    rw [hm, hgg] at b7 hr4 ⊢
    rw [hts, hm, hc2] at hsq hsq4
    rw [hc2]
    have hfin : val W32 ts / 2 ^ r = val W32 xs / 2 ^ n := by
      rw [← hts, val_div (by decide) HI1.out.2.1, HI1.out.1, pow32, Nat.div_div_eq_div_mul, ← Nat.pow_add, HN.out]
    have hown := hsq.own
    have hS := Seen.of hsq4 htl htlo
    rw [hsz4] at hS
    have hg1 : g < w3.heap.size := by omega
    have hg2 : w2.heap.size < g := by omega
    clear hw4 hB3 hB34 hsq hsq4 HG3 HR3 hts hg hgg
    refine range_down w (w3.heap.size + 1 + 1) m c2 a2 (fun j z => z = ts.getD j 0) (by unfold maxLen; omega) rfl rfl (hB04.alloc (by omega) _)
      (fun W hW => hS.below hW (by simp; omega) (fun b off hp e => by have := hown (by rw [C_length]; omega) b (by rw [e]; rfl); simp; omega))
      (fun pre W => ShrI w r g w2.heap.size w3.heap.size (w3.heap.size + 1) m pre W) (fun _ _ => False)
      (fun s A B row hs hg hr => ⟨Row.turn hs.1 hg hr, Boxed.turn hs.2.1 hg hr, Boxed.turn hs.2.2.1 hg hr, Boxed.turn hs.2.2.2 hg hr⟩)
      (fun _ _ _ _ hs _ _ => hs)
      ⟨hr4.alloc _, b8.alloc _, b7.alloc _, b6.alloc _⟩
      (fun i z => { tmps := #[.slice a1 n1 c1, .int .i64 n, undef, undef, .slice none 0 0, .int .i64 q, .pointer (some ⟨w2.heap.size, 0, none⟩), .pointer (some ⟨w3.heap.size, 0, none⟩), .pointer (some ⟨w3.heap.size + 1, 0, none⟩), .int .i64 (i : Int), .int .u32 (z : Int), undef, va, .slice a1 n1 c1, .int .i64 ni, .int .i64 n, .int .i64 n, .int .i64 q, .int .i64 n, ?t19, .int .i64 q, .slice a1 n1 c1, .int .i64 n1, .bool false, .slice a1 n1 c1, .int .i64 n1, .int .i64 q, ?t27, ?t28, .slice a1 n1 c1, .int .i64 q, ?t31, .func (.func 70) #[] #[.pointer (some ⟨w3.heap.size + 1 + 1, 0, none⟩)], .int .i64 (i : Int), .int .u32 (z : Int), undef, undef, undef, undef, undef, undef, undef, undef, undef, undef, undef, undef, undef, undef, undef, undef], defers := [] }) ?assign ?body ?done ?stop
    case assign =>
      intro l i z W K hK
      gi_wp2
      exact hK
    case body =>
      rintro l pre x i z W R HX hii hz HV ⟨hr, hb8, hb7, hb6⟩ hB HN' HR'
      have hb8 : Boxed W (w3.heap.size + 1) 22 _ := hb8
      have hb7 : Boxed W w3.heap.size 44 _ := hb7
      have hb6 : Boxed W w2.heap.size 3 _ := hb6
      obtain ⟨hsl, hslo, hs2⟩ := shrSt_lo r m pre
      have c8 := hb8.cell; have f8 := hb8.frozen; have c7 := hb7.cell; have c6 := hb6.cell
      have hco := (hr.cell i).trans (C_get _ (by omega))
      have hfo := hr.frozen i
      clear b6 b7 b8 hr4 hS
      obtain ⟨ab, hab⟩ : ∃ ab, (shrSt r (List.replicate m 0) pre).2 = ab := ⟨_, rfl⟩
      rw [hab] at c8 hs2
      have hor := or64 ab z hs2 hz
      gi_wp2
      refine region_round (S := fun w' => w'.cell? ⟨w3.heap.size, 0, none⟩ = some (.slice (some ⟨g, 0, none⟩) m m) ∧ w'.cell? ⟨w2.heap.size, 0, none⟩ = some (.int .i64 (r : Int))) (by kernel_rfl) (by kernel_rfl) (⟨c7, c6⟩) (fun hHeld => ?_)
      refine wpAnyH_takeL (i := 0) (v := ?v0) rfl (by kernel_rfl) (by kernel_rfl) (by kernel_rfl) (fun _ _ _ h => h) (by rfl) ?h0 (by assumption) ?_
      case h0 => intro w hSw; go_simp <;> with_reducible rfl
      simp only [Act.put, List.setIfInBounds_toArray, List.set_cons_zero, List.set_cons_succ]
      refine wpAnyH_takeL (i := 1) (v := ?v1) rfl (by kernel_rfl) (by kernel_rfl) (by kernel_rfl) (fun _ _ _ h => h) (by rfl) ?h1 (by assumption) ?_
      case h1 => intro w hSw; go_simp <;> with_reducible rfl
      simp only [Act.put, List.setIfInBounds_toArray, List.set_cons_zero, List.set_cons_succ]
      refine wpAnyH_takeL (i := 2) (v := ?v2) rfl (by kernel_rfl) (by kernel_rfl) (by kernel_rfl) (fun _ _ _ h => h) (by rfl) ?h2 (by assumption) ?_
      case h2 => intro w hSw; go_simp <;> with_reducible rfl
      simp only [Act.put, List.setIfInBounds_toArray, List.set_cons_zero, List.set_cons_succ]
      refine wpAnyH_takeL (i := 3) (v := ?v3) rfl (by kernel_rfl) (by kernel_rfl) (by kernel_rfl) (fun _ _ _ h => h) (by rfl) ?h3 (by assumption) ?_
      case h3 => intro w hSw; go_simp <;> with_reducible rfl
      simp only [Act.put, List.setIfInBounds_toArray, List.set_cons_zero, List.set_cons_succ]
      refine wpAnyH_takeL (i := 4) (v := ?v4) rfl (by kernel_rfl) (by kernel_rfl) (by kernel_rfl) (fun _ _ _ h => h) (by rfl) ?h4 (by assumption) ?_
      case h4 => intro w hSw; go_simp <;> with_reducible rfl
      simp only [Act.put, List.setIfInBounds_toArray, List.set_cons_zero, List.set_cons_succ]
      refine wpAnyH_takeL (i := 5) (v := ?v5) rfl (by kernel_rfl) (by kernel_rfl) (by kernel_rfl) (fun _ _ _ h => h) (by rfl) ?h5 (by assumption) ?_
      case h5 => intro w hSw; go_simp <;> with_reducible rfl
      simp only [Act.put, List.setIfInBounds_toArray, List.set_cons_zero, List.set_cons_succ]
      refine wpAnyH_takeL (i := 6) (v := ?v6) rfl (by kernel_rfl) (by kernel_rfl) (by kernel_rfl) (fun _ _ _ h => h) (by rfl) ?h6 (by assumption) ?_
      case h6 => intro w hSw; go_simp <;> with_reducible rfl
      simp only [Act.put, List.setIfInBounds_toArray, List.set_cons_zero, List.set_cons_succ]
      refine allReadyH_oneL (i := 7) (by kernel_rfl) rfl (by rfl) (fun K hK => ?_)
      go_simp
      refine hK.out _ _ (⟨(((Boxed.row hb7).other _ (by omega)).cell 0), (((Boxed.row hb6).other _ (by omega)).cell 0)⟩) (fun hHeld => ?_)
      clear hK K
      refine wpAnyH_done (by kernel_rfl) ?_ _
      refine Nrm.normal ?_
      obtain ⟨V1, hV1⟩ : ∃ V1 : Nat, (ab * 4294967296 + z) / 2 ^ r % 4294967296 = V1 := ⟨_, rfl⟩
      have eV : IntKind.u32.wrap (((ab : Int) * 4294967296 + (z : Int)) / 2 ^ r) = (V1 : Int) := by
        rw [wrap32, ← hV1]; simp
      rw [eV]
      obtain ⟨W1, hW1⟩ : ∃ W1, (W.setCell ⟨g, i, none⟩ (.int .u32 (V1 : Int))).drew = W1 := ⟨_, rfl⟩
      rw [hW1]
      have hr1 : Row W1 g 55 (C .u32 ((shrSt r (List.replicate m 0) pre).1.set i V1)) := by rw [← hW1, C_set]; exact hr.set i _
      have b81 : Boxed W1 (w3.heap.size + 1) 22 (.int .u64 ((shrSt r (List.replicate m 0) pre).2 : Nat)) := by rw [← hW1]; exact (Boxed.row hb8).other _ (by omega)
      have b71 : Boxed W1 w3.heap.size 44 (.slice (some ⟨g, 0, none⟩) m m) := by rw [← hW1]; exact (Boxed.row hb7).other _ (by omega)
      have b61 : Boxed W1 w2.heap.size 3 (.int .i64 (r : Int)) := by rw [← hW1]; exact (Boxed.row hb6).other _ (by omega)
      have hko : KeepsOthers W W1 := by rw [← hW1]; exact (KeepsOthers.setCell _ _ _).trans (KeepsOthers.drew _)
      have hB1 : Below w.heap.size w W1 := by rw [← hW1]; exact (hB.setCell (p := ⟨g, i, none⟩) (by simp; omega) _).drew
      have hoth : ∀ k, k ≠ g → W1.heap[k]? = W.heap[k]? := fun k hk => by rw [← hW1]; exact Below.heap_setCell W ⟨g, i, none⟩ _ k hk
      have c81 := b81.cell; have f81 := b81.frozen
      have HRow := Away.mk hr1; have H8 := Away.mk b81; have H7 := Away.mk b71; have H6 := Away.mk b61; have HK := Away.mk hko; have HB1 := Away.mk hB1; have HO := Away.mk hoth
      clear hW1 hr1 b81 b71 b61 hko hB1 hoth hor c8 f8 c7 c6 hco hfo eV hHeld hr hb8 hb7 hb6
      gi_wp2
      refine HN'.out _ _ (HK.out.trans (KeepsOthers.setCell _ _ _)) (fun hse => hse.keep ?_ ?_) ⟨?_, ?_, ?_, ?_⟩ (HB1.out.setCell (p := ⟨w3.heap.size + 1, 0, none⟩) (by simp; omega) _)
      · rw [Below.heap_setCell _ _ _ _ (show w3.heap.size + 1 + 1 ≠ w3.heap.size + 1 by omega)]
        exact HO.out _ (by omega)
      · intro b off hp e
        have hb := hown (by rw [C_length]; omega) b (by rw [e]; rfl)
        rw [Below.heap_setCell _ _ _ _ (show b ≠ w3.heap.size + 1 by omega)]
        exact HO.out _ (by omega)
      · rw [shrSt_snoc, HX.out.1, HX.out.2, hab, hV1]
        exact HRow.out.other _ (by omega)
      · rw [shrSt_snoc, HX.out.2]
        exact H8.out.set _
      · exact (Boxed.row H7.out).other _ (by omega)
      · exact (Boxed.row H6.out).other _ (by omega)
    case done =>
      rintro D qs W hD hp ⟨hr, hb8, hb7, hb6⟩ hB hK
      obtain ⟨hsl, hslo, hs2⟩ := shrSt_lo r m qs
      have hb7 : Boxed W w3.heap.size 44 _ := hb7
      have c7 := hb7.cell
      have hval := shrSt_all htl htlo hr32 qs hp
      rw [hfin] at hval
      have HT := Away.mk (trimmed_new w.heap.size g _ W hr (by omega) hslo (by omega))
      rw [hval, hsl] at HT
      have HK := Away.mk hK
      clear hr hb8 hb7 hb6 hval hp hS hr4 b6 b7 b8 hfin hK
      go_wp2_with fail
      refine HT.out.mono ?_
      rintro _ w6 ⟨v', rfl, hans, hb6⟩
      go_wp2
      have hD' : D < W.heap.size := (Array.getElem?_eq_some_iff.1 HK.out).1
      have hK' : w6.heap[D]? = some (.deferred (some [])) := (hb6.block D hD').trans HK.out
      refine ⟨by simp, .inl ⟨_, _, rfl, run_takeDeferred hK', ?_⟩⟩
      have hB6 : Below w.heap.size w w6 := hB.trans (hb6.mono hB.size)
      refine ⟨_, results_tmp rfl _ _ _, _, rfl, ?_, below_shut (w := w) hB6 (by simp at hD; omega) hK'⟩
      exact hans.turn (grownBy_putObj' _ D (.deferred none)) (fun r e => by cases e; exact ⟨_, hK', rfl⟩)
    case stop =>
      rintro D k pre W hD hk hp hx
      exact hx.elim
end Go.Proofs.YtdpahahfcdldcaaDoor
