/-
  Contracts of Bits and trimmed, over this seat's translation. Conditions: at most 1000000 words.
-/
import Derived.Test.YtdpahahfcdldcaaDoorNatR
namespace Go.Proofs.YtdpahahfcdldcaaDoor
open Go.RowKit Go.Shelf
set_option linter.unusedVariables false
attribute [local go_sem] Oper.semAt_some

theorem mem_desc {n j : Nat} (h : j < n) : j ∈ desc n n := by
  simp only [desc, List.mem_map, List.mem_range]; exact ⟨n - 1 - j, by omega, by omega⟩
/-- What came, in words of the list. -/
theorem all_zero {xs : List Nat} {n : Nat} (hn : xs.length = n) (ys : List (Al n fun j z => z = xs.getD j 0)) (hp : places ys = desc n n) (h : ∀ p ∈ ys, p.1.2 = 0) : ∀ j, xs.getD j 0 = 0 := by
  intro j
  by_cases hj : j < n
  · have := mem_desc hj
    rw [← hp] at this
    obtain ⟨p, hp1, hp2⟩ := List.mem_map.1 this
    have h2 := p.2.2.2
    rw [h p hp1, hp2] at h2
    exact h2.symm
  · exact getD_past (by omega)
theorem last_place {n k : Nat} {V : Nat → Nat → Prop} {ini : List (Al n V)} {x : Al n V} (h : places (ini ++ [x]) = desc n k) : ∃ k', k = k' + 1 ∧ places ini = desc n k' ∧ x.1.1 = n - 1 - k' := by
  rw [places_snoc] at h
  cases k with
  | zero => simp [desc] at h
  | succ k =>
    rw [desc_succ] at h
    obtain ⟨h1, h2⟩ := List.append_inj' h rfl
    exact ⟨k, rfl, h1, by simpa using h2⟩
theorem above_zero {xs : List Nat} {n k : Nat} (hn : xs.length = n) (hk : k ≤ n) (ys : List (Al n fun j z => z = xs.getD j 0)) (hp : places ys = desc n k) (h : ∀ p ∈ ys, p.1.2 = 0) : ∀ j, n - 1 - k < j → xs.getD j 0 = 0 := by
  intro j hj
  by_cases hjn : j < n
  · have : j ∈ desc n k := by simp only [desc, List.mem_map, List.mem_range]; exact ⟨n - 1 - j, by omega, by omega⟩
    rw [← hp] at this
    obtain ⟨p, hp1, hp2⟩ := List.mem_map.1 this
    have h2 := p.2.2.2
    rw [h p hp1, hp2] at h2
    exact h2.symm
  · exact getD_past (by omega)
theorem bl_top {xs : List Nat} {i : Nat} (hl : Lo W32 xs) (h0 : xs.getD i 0 ≠ 0) (hz : ∀ j, i < j → xs.getD j 0 = 0) : bl (val W32 xs) = i * 32 + bl (xs.getD i 0) := by
  rw [val_split xs i, val_drop_zero (fun j hj => hz j (by omega)), Nat.mul_zero, Nat.add_zero, pow32, bl_add ?_ h0]
  · omega
  · have := val_take_lt (B := W32) (by decide) hl i
    rwa [pow32] at this

set_option maxRecDepth 100000 in
set_option maxHeartbeats 2000000 in
theorem bits_any (v : Value) (xs : List Nat) (w : World) (hs : SlV w v (C .u32 xs)) (hl : Lo W32 xs) (hm : xs.length ≤ 1000000) :
    Calls Tryd.prog 59 #[v] w fun e w' => e = .returned (.int .i64 (bl (val W32 xs) : Nat)) ∧ Below w.heap.size w w' := by
  obtain ⟨a, cap, hv, hcl, hcm⟩ := hs.shape
  rw [C_length] at hv hcl
  subst hv
  obtain ⟨n, hn⟩ : ∃ n, xs.length = n := ⟨_, rfl⟩
  rw [hn] at hs hcl hm ⊢
  refine (callsIn_wide (n := 3)).1 ?_
  refine callsIn_of_wp_marks Tryd.func59 rfl trivial ?_ rfl
  refine wpIn_wide.2 ?_
  simp only [Tryd.ntmps59, List.size_toArray, List.length_cons, List.length_nil, Nat.reduceAdd, Nat.reduceSub, Array.replicate_succ, Array.replicate_zero, List.push_toArray, List.append_toArray, List.nil_append, List.cons_append]
  go_wp2_with fail
  refine (down_any _ _ _ _).mono ?_
  rintro _ w' ⟨rfl, rfl⟩
  go_wp2
  have bR := Boxed.new w 3 (.int .i64 0)
  have hB0 : Below w.heap.size w (w.alloc (.cells #[.int .i64 0] 3)) := (Below.refl _ w).alloc (Nat.le_refl _) _
  have hS := Seen.of (hs.below hB0) hn hl
  have hB1 : Below w.heap.size w ((w.alloc (.cells #[.int .i64 0] 3)).alloc (.cells #[.slice a n cap] 44)) := hB0.alloc (by simp) _
  rw [World.size_alloc] at hS
  refine range_down w (w.heap.size + 1) n cap a (fun j z => z = xs.getD j 0) (by omega) rfl rfl hB1
    (fun W hW => hS.below hW (by simp) (fun b off hp e => by subst e; obtain ⟨b', off', e', hb', _⟩ := hs.cells (by rw [C_length]; omega); cases e'; simp; omega))
    (fun pre W => (∀ p ∈ pre, p.1.2 = 0) ∧ W.cell? ⟨w.heap.size, 0, none⟩ = some (.int .i64 0) ∧ W.frozen? ⟨w.heap.size, 0, none⟩ = false)
    (fun pre W => ∃ ini last, pre = ini ++ [last] ∧ (∀ p ∈ ini, p.1.2 = 0) ∧ last.1.2 ≠ 0 ∧ W.cell? ⟨w.heap.size, 0, none⟩ = some (.int .i64 ((last.1.1 * 32 + bl last.1.2 : Nat) : Int)))
    (fun s A B row hs hg hr => ⟨hs.1, cell_kept hs.2.1 hg hr, (frozen_kept hs.2.1 hg hr).trans hs.2.2⟩)
    (fun s A B row hs hg hr => by obtain ⟨ini, last, e1, e2, e3, e4⟩ := hs; exact ⟨ini, last, e1, e2, e3, cell_kept e4 hg hr⟩)
    ⟨by simp, (bR.alloc _).cell, (bR.alloc _).frozen⟩
    (fun i z => { tmps := #[.slice a n cap, undef, .pointer (some ⟨w.heap.size, 0, none⟩), .int .i64 (i : Int), .int .u32 (z : Int), .slice a n cap, .func (.func 70) #[] #[.pointer (some ⟨w.heap.size + 1, 0, none⟩)], .int .i64 (i : Int), .int .u32 (z : Int), undef, undef, undef, undef, undef, undef, undef], defers := [] }) ?assign ?body ?done ?stop
  case assign =>
    intro l i z W K hK
    gi_wp2
    exact hK
  case body =>
    rintro l pre x i z W R HX hi hz HV ⟨hp, hcr, hfr⟩ hB HN HR
    clear hS bR hB0 hB1 hs
    have HP := Away.mk hp
    clear hp
    by_cases h0 : z = 0
    · subst h0
      gi_wp2
      exact HN.out _ _ (KeepsOthers.refl _) (fun h => h) ⟨fun p hp' => (List.mem_append.1 hp').elim (HP.out p) (fun e => by rw [List.mem_singleton.1 e]; exact HX.out.2), hcr, hfr⟩ hB
    · have d0 : ((z : Int) != 0) = true := by simpa using h0
      have hlb := (bl_le z 32).2 (by omega)
      gi_wp2_with fail
      refine ⟨trivial, CallsIn.inRound l (callsIn_wide.2 ((len32_any z hz W).mono ?_))⟩
      rintro _ w' ⟨rfl, rfl⟩
      gi_wp2
      refine HR.out _ _ (KeepsOthers.setCell _ _ _) ⟨pre, x, rfl, HP.out, ?_, ?_⟩ (hB.setCell (p := ⟨w.heap.size, 0, none⟩) (Nat.le_refl _) _)
      · rw [HX.out.2]; exact h0
      · rw [HX.out.1, HX.out.2]; exact World.cell?_setCell_same' _ _ _ (by rw [hcr]; rfl)
  case done =>
    rintro D ys W hD hp ⟨h0, hcr, hfr⟩ hB hK
    go_wp2
    have hK' := (KeepsOthers.setCell W ⟨w.heap.size, 0, none⟩ (.int .i64 0)).same D _ hK rfl
    refine ⟨by simp, .inl ⟨_, _, rfl, run_takeDeferred hK', ?_⟩⟩
    have hc5 := cell_kept (World.cell?_setCell_same' W ⟨w.heap.size, 0, none⟩ (.int .i64 0) (by rw [hcr]; rfl)) (grownBy_putObj' _ D (.deferred none)) (fun r e => by cases e; exact ⟨_, hK', rfl⟩)
    have hz := val_drop_zero (B := W32) (i := 0) (fun j _ => all_zero hn ys hp h0 j)
    rw [List.drop_zero] at hz
    refine ⟨.int .i64 0, ?_, by rw [hz]; rfl, below_shut (w := w) (hB.setCell (p := ⟨w.heap.size, 0, none⟩) (Nat.le_refl _) _) (by simp at hD; omega) hK'⟩
    simp [results, Tryd.f59, go_sem, hc5]
  case stop =>
    rintro D k pre W hD hk hp ⟨ini, last, rfl, h0, h1, hcr⟩ hB hK
    go_wp2
    refine ⟨by simp, .inl ⟨_, _, rfl, run_takeDeferred hK, ?_⟩⟩
    have hc5 := cell_kept hcr (grownBy_putObj' _ D (.deferred none)) (fun r e => by cases e; exact ⟨_, hK, rfl⟩)
    obtain ⟨k', rfl, hp', hi⟩ := last_place hp
    have hV := last.2.2.2
    have hz := above_zero hn (by omega) ini hp' h0
    rw [← hi] at hz
    rw [hV] at h1 hc5
    refine ⟨_, ?_, by rw [bl_top hl h1 hz], below_shut (w := w) hB (by simp at hD; omega) hK⟩
    simp [results, Tryd.f59, go_sem, hc5]

/-- The words of a slice that is read, without the noughts at their end. -/
theorem trimmed_any (v : Value) (xs : List Nat) (w : World) (hs : SlV w v (C .u32 xs)) (hl : Lo W32 xs) (hm : xs.length ≤ 1000000) :
    Calls Tryd.prog 44 #[v] w fun e w' => ∃ a n cap k, v = .slice a n cap ∧ k ≤ n ∧ xs.length = n ∧ e = .returned (.slice a k k) ∧ Is W32 (val W32 xs) (xs.take k) ∧ Below w.heap.size w w' := by
  obtain ⟨a, cap, hv, hcl, hcm⟩ := hs.shape
  rw [C_length] at hv hcl
  subst hv
  obtain ⟨n, hn⟩ : ∃ n, xs.length = n := ⟨_, rfl⟩
  rw [hn] at hs hcl hm ⊢
  obtain ⟨hw1, hw2⟩ := Is.words hl
  have hbb : bl (val W32 xs) ≤ 32 * n := by have := (bl_le (val W32 xs) (32 * n)).2 (by have := val_lt (B := W32) (by decide) hl; rw [pow32, hn] at this; exact this); exact this
  have HB := Away.mk (bits_any _ xs w hs hl (by omega))
  have HW := Away.mk hw2
  clear hw2 hs
  generalize hL : bl (val W32 xs) = L at *
  obtain ⟨k, hk⟩ : ∃ k, (L + 31) / 32 = k := ⟨_, rfl⟩
  rw [hk] at hw1 HW
  have HK := Away.mk hk
  have hkn : k ≤ n := by omega
  have e1 : ((L : Int) + 31) / 32 = (k : Int) := by omega
  clear hk hL hw1
  go_enter Tryd.func44, Tryd.ntmps44
  go_wp2_with fail
  refine HB.out.mono ?_
  rintro _ w' ⟨rfl, hb⟩
  go_wp2
  go_ret
  have hk := HK.out
  rw [show (L + 32 - 1) / 32 = k by omega]
  exact ⟨a, n, cap, k, rfl, hkn, rfl, rfl, HW.out, hb⟩

/-- x[:k:k]. -/
theorem SlV.cap {w : World} {a : Option Addr} {n cap : Nat} {xs : List Value} (h : SlV w (.slice a n cap) xs) (k : Nat) (hk : k ≤ n) : SlV w (.slice a k k) (xs.take k) := by
  obtain ⟨a', c', e, q1, q2, q3, q4⟩ := h
  simp only [Value.slice.injEq] at e
  obtain ⟨rfl, rfl, rfl⟩ := e
  have hl : (xs.take k).length = k := by rw [List.length_take]; omega
  refine ⟨a, k, by rw [hl], by omega, by omega, fun e => by have := q3 e; omega, fun hp => ?_⟩
  obtain ⟨b, off, rfl, q5⟩ := q4 (by omega)
  refine ⟨b, off, rfl, fun i u hu => q5 i u ?_⟩
  rw [List.getElem?_take] at hu
  split at hu
  · exact hu
  · cases hu
/-- A slice that reads as the words of N, without noughts at their end; in block g. -/
def Ans (B : Nat) (w : World) (v : Value) (N : Nat) : Prop :=
  ∃ zs, Is W32 N zs ∧ SlV w v (C .u32 zs) ∧ (0 < zs.length → ∃ g rest, v = .slice (some ⟨g, 0, none⟩) zs.length zs.length ∧ B ≤ g ∧ Row w g 55 (C .u32 zs ++ rest))
theorem Ans.below {B B' : Nat} {w w' : World} {v : Value} {N : Nat} (h : Ans B w v N) (hb : Below w.heap.size w w') : Ans B w' v N := by
  obtain ⟨zs, h1, h2, h3⟩ := h
  refine ⟨zs, h1, h2.below hb, fun hp => ?_⟩
  obtain ⟨g, rest, e, hg, hr⟩ := h3 hp
  exact ⟨g, rest, e, hg, hr.belowS hb⟩
theorem Ans.nil (B : Nat) (w : World) : Ans B w (.slice none 0 0) 0 := ⟨[], Is.nil, SlV.nil w, fun h => by simp at h⟩
theorem Ans.base {B B' : Nat} {w : World} {v : Value} {N : Nat} (h : Ans B w v N) (hb : B' ≤ B) : Ans B' w v N := by
  obtain ⟨zs, h1, h2, h3⟩ := h
  refine ⟨zs, h1, h2, fun hp => ?_⟩
  obtain ⟨g, rest, e, hg, hr⟩ := h3 hp
  exact ⟨g, rest, e, by omega, hr⟩

theorem trimmed_read (v : Value) (xs : List Nat) (w : World) (hs : SlV w v (C .u32 xs)) (hl : Lo W32 xs) (hm : xs.length ≤ 1000000) :
    Calls Tryd.prog 44 #[v] w fun e w' => ∃ v' zs, e = .returned v' ∧ Is W32 (val W32 xs) zs ∧ zs.length ≤ xs.length ∧ SlV w' v' (C .u32 zs) ∧ Below w.heap.size w w' := by
  refine (trimmed_any v xs w hs hl hm).mono ?_
  rintro _ w' ⟨a, n, cap, k, rfl, hk, hn, rfl, hI, hb⟩
  refine ⟨_, _, rfl, hI, by rw [List.length_take]; omega, ?_, hb⟩
  rw [C_take]
  exact (hs.below hb).cap k hk
theorem trimmed_new (B g : Nat) (xs : List Nat) (w : World) (hr : Row w g 55 (C .u32 xs)) (hg : B ≤ g) (hl : Lo W32 xs) (hm : xs.length ≤ 1000000) :
    Calls Tryd.prog 44 #[.slice (some ⟨g, 0, none⟩) xs.length xs.length] w fun e w' => ∃ v', e = .returned v' ∧ Ans B w' v' (val W32 xs) ∧ Below w.heap.size w w' := by
  have hs := hr.slAll (by rw [C_length]; unfold maxLen; omega)
  rw [C_length] at hs
  refine (trimmed_any _ xs w hs hl hm).mono ?_
  rintro _ w' ⟨a, n, cap, k, hv, hk, hn, rfl, hI, hb⟩
  simp only [Value.slice.injEq] at hv
  obtain ⟨rfl, rfl, rfl⟩ := hv
  have hkl : (xs.take k).length = k := by rw [List.length_take]; omega
  refine ⟨_, rfl, ⟨xs.take k, hI, ?_, fun _ => ⟨g, C .u32 (xs.drop k), by rw [hkl], hg, ?_⟩⟩, hb⟩
  · rw [C_take]; exact (hs.below hb).cap k hk
  · rw [← C_append, List.take_append_drop]; exact hr.belowS hb
end Go.Proofs.YtdpahahfcdldcaaDoor
