/-
  What bytes.TrimRight answers at the cutset of a blank and a tab, and what text.trimmed and text.Trim do. Conditions: each as it says.
-/
import Derived.Test.YtcllmkfaifalgaaDoorTxA
import Derived.Test.YtcllmkfaifalgaaDoorKit6
namespace Go.Proofs.YtcllmkfaifalgaaDoor.T
open Go Go.RowKit
set_option linter.unusedVariables false
set_option maxRecDepth 100000

/-- The cells of the set of the blank and the tab. -/
structure SetB (us : List Value) : Prop where
  len : us.length = 256
  at' : ∀ c : Nat, c < 256 → us[c]? = some (.bool (bl (c : Int)))
def s0 : List Value := List.replicate 256 (.bool false)
theorem s0_set : SetB ((s0.set 32 (.bool true)).set 9 (.bool true)) := by
  refine ⟨by simp [s0], fun c hc => ?_⟩
  rw [List.getElem?_set, List.getElem?_set]
  simp only [List.length_set, s0, List.length_replicate, List.getElem?_replicate]
  by_cases h9 : 9 = c
  · subst h9; simp; decide
  · by_cases h32 : 32 = c
    · subst h32; simp; decide
    · simp [h9, h32, hc, bl]; omega
theorem all_bool (us : List Value) (h : SetB us) : us.all (·.oneCell') = true := by
  rw [List.all_eq_true]
  intro u hu
  obtain ⟨i, hi⟩ := List.mem_iff_getElem?.1 hu
  have hl := (List.getElem?_eq_some_iff.1 hi).1
  rw [h.at' i (by rw [h.len] at hl; exact hl)] at hi
  cases hi; rfl

theorem zeroSet (w : World) : (zeroValue 45).run Tryd.prog w = .ok (.agg s0.toArray) w := by kernel_rfl
theorem sizeSet : (Tryd.prog.info? 45).map (·.size) = some 256 := by kernel_rfl

def sk : Nat → List Value
  | 0 => s0
  | 1 => s0.set 32 (.bool true)
  | _ => (s0.set 32 (.bool true)).set 9 (.bool true)
set_option maxHeartbeats 1000000 in
theorem makeSet_any (w : World) :
    Calls Tryd.prog 35 #[.string ⟨#[32, 9]⟩] w fun e w' => ∃ us, e = .returned (.tuple #[.agg us.toArray, .bool true]) ∧ SetB us ∧ Below w.heap.size w w' := by
  have hnew := Row.new w 45 s0
  have hA : Below w.heap.size w (w.alloc (.cells s0.toArray 45)) := (Below.refl _ _).alloc (Nat.le_refl _) _
  go_enter Tryd.func35, Tryd.ntmps35
  go_wp2_with (refine wpList_alloc_row rfl 45 rfl s0 zeroSet ?_)
  generalize w.alloc (.cells s0.toArray 45) = w1 at *
  go_wp2
  go_loopw [4] (fun i wr => Below w.heap.size w wr ∧ ((i = .int .i64 0 ∧ Row wr w.heap.size 45 s0) ∨ (i = .int .i64 1 ∧ Row wr w.heap.size 45 (s0.set 32 (.bool true))) ∨ (i = .int .i64 2 ∧ Row wr w.heap.size 45 ((s0.set 32 (.bool true)).set 9 (.bool true))))) (fun i _ => match i with | .int _ k => 2 - k.toNat | _ => 0)
  case atStart => exact ⟨hA, .inl ⟨rfl, hnew⟩⟩
  case round =>
    obtain ⟨hB, (⟨rfl, hR⟩ | ⟨rfl, hR⟩ | ⟨rfl, hR⟩)⟩ := hrel
    · have c1 := (hR.cell 32).trans (show s0[32]? = some (.bool false) from by kernel_rfl)
      have c2 := hR.frozen 32
      have e0 : (⟨#[32, 9]⟩ : ByteArray)[0].toNat = 32 := rfl
      go_wp2
      go_roundw
      case rel => exact ⟨hB.setCell (p := ⟨w.heap.size, 32, none⟩) (Nat.le_refl _) _, .inr (.inl ⟨rfl, hR.set 32 _⟩)⟩
      case measure => simp
    · have c1 := (hR.cell 9).trans (show (s0.set 32 (.bool true))[9]? = some (.bool false) from by kernel_rfl)
      have c2 := hR.frozen 9
      have e0 : (⟨#[32, 9]⟩ : ByteArray)[1].toNat = 9 := rfl
      go_wp2
      go_roundw
      case rel => exact ⟨hB.setCell (p := ⟨w.heap.size, 9, none⟩) (Nat.le_refl _) _, .inr (.inr ⟨rfl, hR.set 9 _⟩)⟩
      case measure => simp
    · have HS := s0_set
      go_wp2_with (first
        | (refine wpList_load_row rfl 45 _ rfl w.heap.size rfl _ _ _ _ hR Tryd.underlying45 rfl sizeSet ?_)
        | (refine wpList_store_R rfl 45 _ _ rfl w.heap.size _ rfl rfl hR sizeSet (by rfl) (all_bool _ HS) ?_))
      intro w2 hR2 hg2 hz2
      have hB2 : Below w.heap.size w w2 := hB.grown hg2 hB.size (fun k hk => by cases hk; exact Nat.le_refl _)
      go_wp2
      refine bodyPost_ret (v := .tuple #[.agg _, .bool true]) ?_ rfl ⟨_, rfl, HS, hB2⟩
      rw [results_cell_tmp Tryd.results35]
      have hl := run_loadVar_row (P := Tryd.prog) w2 w.heap.size _ 45 _ (0, 0) _ hR2 Tryd.underlying45 rfl sizeSet
      simp [asAddr, hl, Result.andThen]
theorem contains_any (w : World) (g : Nat) (us : List Value) (c : Int) (hR : Row w g 45 us) (hs : SetB us) (h0 : 0 ≤ c) (h1 : c ≤ 255) :
    Calls Tryd.prog 43 #[.pointer (some ⟨g, 0, none⟩), .int .u8 c] w fun e w' => e = .returned (.bool (bl c)) ∧ w = w' := by
  obtain ⟨n, rfl⟩ := Int.eq_ofNat_of_zero_le h0
  have hc : w.cell? ⟨g, n, none⟩ = some (.bool (bl (n : Int))) := (hR.cell n).trans (hs.at' n (by omega))
  go_enter Tryd.func43, Tryd.ntmps43
  go_wp2
  go_ret
  exact ⟨rfl, rfl⟩
set_option maxHeartbeats 1000000 in
theorem trimRightASCII_any (w : World) (g : Nat) (us : List Value) (hR : Row w g 45 us) (hset : SetB us) (a : Option Addr) (L cap : Nat) (xs : List Int) (hS : SlV w (.slice a L cap) (U xs)) (hb : Byt xs) :
    Calls Tryd.prog 36 #[.slice a L cap, .pointer (some ⟨g, 0, none⟩)] w fun e w' => e = .returned (.slice a (trim xs).length cap) ∧ w = w' := by
  have hL : xs.length = L := by
    obtain ⟨_, _, e, _⟩ := hS.shapeU rfl
    simp only [Value.slice.injEq] at e
    exact e.2.1.symm
  obtain ⟨_, _, e, hcap, hcm⟩ := hS.shapeU hL
  simp only [Value.slice.injEq] at e
  obtain ⟨-, -, rfl⟩ := e
  go_enter Tryd.func36, Tryd.ntmps36
  go_wp2
  go_loopw [0] (fun i wr => ∃ m : Nat, m ≤ L ∧ i = .slice a m cap ∧ trim (xs.take m) = trim xs ∧ wr = w) (fun i _ => lenS i)
  case atStart => exact ⟨L, Nat.le_refl _, rfl, by rw [List.take_of_length_le (by omega)], rfl⟩
  case round =>
    obtain ⟨m, hmL, rfl, ht, rfl⟩ := hrel
    have hZ : SlV wr (.slice a m cap) (U (xs.take m)) := by rw [U_take]; exact hS.upto m hmL
    have hbz : Byt (xs.take m) := hb.take m
    obtain ⟨zs, hzs0⟩ : ∃ zs, xs.take m = zs := ⟨_, rfl⟩
    have hN : zs.length = m := by rw [← hzs0, List.length_take]; omega
    have hm : maxLen = 9223372036854775807 := rfl
    rw [hzs0] at hZ hbz ht
    cases m with
    | zero =>
      obtain rfl : zs = [] := List.eq_nil_of_length_eq_zero hN
      go_wp2
      go_ret
      exact ⟨by rw [← ht]; rfl, rfl⟩
    | succ N =>
      obtain ⟨x, d1, d2, d3, d4⟩ := last_drop hN
      have hx := hbz x d3
      have hzs : zs = zs.take N ++ [x] := by rw [← d1, List.take_append_drop]
      have hpre : xs.take N = zs.take N := by rw [← hzs0, List.take_take]; congr 1; omega
      obtain ⟨b, off, rfl, hbl, hcell⟩ := hZ.cells (by rw [U_length]; omega)
      have hc : wr.cell? ⟨b, off + N, none⟩ = some (.int .u8 x) := hcell N _ (by
        have := congrArg U hzs
        rw [U_append] at this
        rw [this, List.getElem?_append_right (by rw [U_length, List.length_take]; omega)]
        have e : N - (U (zs.take N)).length = 0 := by rw [U_length, List.length_take]; omega
        rw [e]; rfl)
      have hcon := contains_any wr g us x hR hset hx.1 hx.2
      clear hcell hZ hS
      cases hbx : bl x with
      | true =>
        rw [hbx] at hcon
        have ht2 := trim_snoc_bl (l := zs.take N) hbx
        rw [← hzs] at ht2
        have HT := Away.mk (show trim (xs.take N) = trim xs by rw [hpre]; exact ht2.symm.trans ht)
        clear ht2 hzs hpre
        go_wp2_with (go_at_call 43; refine hcon.mono ?_; rintro e w' ⟨rfl, rfl⟩)
        exact ⟨⟨N, by omega, rfl, HT.out, trivial⟩, by simp [lenS]⟩
      | false =>
        rw [hbx] at hcon
        have ht2 := trim_snoc_no (l := zs.take N) hbx
        rw [← hzs] at ht2
        have HT := Away.mk (show (trim xs).length = N + 1 by rw [← ht, ht2, hN])
        clear ht2 hzs hpre
        go_wp2_with (go_at_call 43; refine hcon.mono ?_; rintro e w' ⟨rfl, rfl⟩)
        go_ret
        exact ⟨by rw [HT.out]; rfl, rfl⟩

set_option maxHeartbeats 1000000 in
/-- bytes.TrimRight at the blank and the tab. -/
theorem trimRight_any (v : Value) (xs : List Int) (w : World) (hS : SlV w v (U xs)) (hb : Byt xs) :
    Calls Tryd.prog 30 #[v, .string ⟨#[32, 9]⟩] w fun e w' => ∃ v', e = .returned v' ∧ Sub v xs v' (trim xs) ∧ Below w.heap.size w w' := by
  obtain ⟨N, hN⟩ : ∃ N, xs.length = N := ⟨_, rfl⟩
  have hS' := hS
  obtain ⟨a, cap, rfl, h1, h2⟩ := hS'.shapeU hN
  have hm : maxLen = 9223372036854775807 := rfl
  cases N with
  | zero =>
    obtain rfl : xs = [] := List.eq_nil_of_length_eq_zero hN
    go_enter Tryd.func30, Tryd.ntmps30
    go_wp2
    go_ret
    exact ⟨_, rfl, fun w hS => hS, Below.refl _ _⟩
  | succ N =>
    have hcon := makeSet_any w
    have HS := Away.mk hS'
    clear hS hS'
    go_enter Tryd.func30, Tryd.ntmps30
    go_wp2_with (first
      | (go_at_call 35; refine hcon.mono ?_; rintro e w1 ⟨us, rfl, hset, hB1⟩)
      | (refine wpList_alloc_row rfl 45 rfl s0 zeroSet ?_)
      | (refine wpList_store_R rfl 45 (.tmp 5) (.tmp 30) rfl w1.heap.size us rfl rfl (Row.new w1 _ s0) (by rw [hset.len]; exact sizeSet) (by rw [hset.len]; rfl) (all_bool _ hset) ?_))
    intro w2 hR2 hg2 hz2
    have hB2 : Below w.heap.size w w2 := (hB1.alloc hB1.size _).grown hg2 (hB1.alloc hB1.size _).size (fun k hk => by cases hk; exact hB1.size)
    have hcon2 := trimRightASCII_any w2 w1.heap.size us hR2 hset _ _ _ xs (HS.out.below hB2) hb
    clear hg2 hz2 hR2
    go_wp2_with (go_at_call 36; refine hcon2.mono ?_; rintro e w3 ⟨rfl, rfl⟩)
    go_ret
    refine ⟨_, rfl, fun w0 hS0 => ?_, hB2⟩
    have := hS0.upto (trim xs).length (by rw [← hN]; exact trim_length xs)
    rw [← U_take, ← trim_take] at this
    exact this
theorem trimmed_any (v : Value) (xs : List Int) (w : World) (hS : SlV w v (U xs)) (hb : Byt xs) :
    Calls Tryd.prog 23 #[v] w fun e w' => ∃ v', e = .returned v' ∧ Sub v xs v' (trim xs) ∧ Below w.heap.size w w' := by
  have hcon := trimRight_any v xs w hS hb
  obtain ⟨a, cap, rfl, h1, h2⟩ := hS.shapeU rfl
  go_enter Tryd.func23, Tryd.ntmps23
  go_wp2_with (go_at_call 30; refine hcon.mono ?_; rintro e w1 ⟨v', rfl, hv, hB⟩)
  go_ret
  exact ⟨v', rfl, hv, hB⟩
/-- text.Trim. -/
theorem trim_any (v : Value) (xs : List Int) (w : World) (hS : SlV w v (U xs)) (hb : Byt xs) (hl : xs.length ≤ 1000000) :
    Calls Tryd.prog 11 #[v] w fun e w' => ∃ v', e = .returned v' ∧ w'.ownsRow w.heap.size 5 1 v' (trim xs).length (U (trim xs)) ∧ Below w.heap.size w w' := by
  have hcon := trimmed_any v xs w hS hb
  have hS' := Away.mk hS
  obtain ⟨a, cap, rfl, h1, h2⟩ := hS.shapeU rfl
  clear hS
  have ht := trim_length xs
  go_enter Tryd.func11, Tryd.ntmps11
  go_wp2_with (go_at_call 23; refine hcon.mono ?_; rintro e w1 ⟨v', rfl, hsub, hB⟩)
  have hv := hsub w hS'.out
  have hcon2 := clone_any v' (trim xs) w1 (hv.below hB) (by omega)
  obtain ⟨a1, cap1, rfl, h3, h4⟩ := hv.shapeU rfl
  go_wp2_with (go_at_call 22; refine hcon2.mono ?_; rintro e w2 ⟨v2, rfl, ho, hB2⟩)
  go_ret
  exact ⟨v2, rfl, own_base ho hB.size, hB.trans (hB2.mono hB.size)⟩
end Go.Proofs.YtcllmkfaifalgaaDoor.T
