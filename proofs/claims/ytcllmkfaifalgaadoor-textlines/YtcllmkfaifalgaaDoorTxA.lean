/-
  What the library's functions answer that package text calls: bytes.Equal, IndexByte, Index, Cut, HasSuffix, TrimSuffix, Clone. Conditions: each as it says.
-/
import Derived.Test.YtcllmkfaifalgaaDoorTxM
import Derived.Test.YtcllmkfaifalgaaDoorRows
import Derived.Lib.BytesEntry
import Derived.Lib.Walk
namespace Go.Proofs.YtcllmkfaifalgaaDoor.T
open Go Go.RowKit
set_option linter.unusedVariables false
set_option maxRecDepth 100000

theorem inf8 : (Tryd.prog.info? 5).map (fun i => (i.zero, i.size, i.bytes)) = some (some (.int .u8 0), 1, 1) := by kernel_rfl
theorem str_beq {xs ys : List Int} (hx : Byt xs) (hy : Byt ys) : ((strOfNums xs).toList == (strOfNums ys).toList) = decide (xs = ys) := by
  rw [Bool.eq_iff_iff, beq_iff_eq, decide_eq_true_iff]
  refine ⟨fun h => strOfNums_inj hx hy ?_, fun h => by rw [h]⟩
  rw [Lib.toList_data, Lib.toList_data] at h
  exact ByteArray.ext (Array.toList_inj.1 h)
/-- Where the first byte 10 is, or -1. -/
def ix (xs : List Int) : Int := match at10 xs with | none => -1 | some i => (i : Int)
theorem ix_none {xs : List Int} (h : at10 xs = none) : ix xs = -1 := by simp [ix, h]
theorem ix_some {xs : List Int} {i : Nat} (h : at10 xs = some i) : ix xs = i := by simp [ix, h]
theorem run_str (w : World) {v : Value} {xs : List Int} (h : SlV w v (U xs)) : (convert 22 9 v).run Tryd.prog w = .ok (.string (strOfNums xs)) w :=
  run_string w _ _ 5 Tryd.underlying22 Tryd.underlying5 Tryd.underlying9 v xs h

theorem equal_any (v1 v2 : Value) (xs ys : List Int) (w : World) (h1 : SlV w v1 (U xs)) (h2 : SlV w v2 (U ys)) (b1 : Byt xs) (b2 : Byt ys) :
    Calls Tryd.prog 39 #[v1, v2] w fun e w' => e = .returned (.bool (decide (xs = ys))) ∧ w = w' := by
  have c1 := run_str w h1
  have c2 := run_str w h2
  go_enter Tryd.func39, Tryd.ntmps39
  go_wp2
  go_ret
  refine ⟨?_, rfl⟩
  show Ending.returned (.bool ((strOfNums xs).toList == (strOfNums ys).toList)) = _
  rw [str_beq b1 b2]

theorem at10_byte : ∀ {xs : List Int}, Byt xs → Lib.indexByte (Lib.bytesOf xs) (10 : Int).toNat.toUInt8 = (ix xs)
  | [], _ => rfl
  | x :: t, h => by
    have h0 := h x (by simp)
    have hix : ix (x :: t) = if x = 10 then 0 else (if ix t = -1 then -1 else ix t + 1) := by
      by_cases hx : x = 10
      · rw [if_pos hx]; exact ix_some (by rw [at10, if_pos hx])
      · rw [if_neg hx]
        cases ht : at10 t with
        | none => rw [ix_none ht, if_pos rfl]; exact ix_none (by rw [at10, if_neg hx, ht]; rfl)
        | some i => rw [ix_some ht, if_neg (by omega)]; exact ix_some (by rw [at10, if_neg hx, ht]; rfl)
    have ih := at10_byte (xs := t) (fun n hn => h n (by simp [hn]))
    have e : ((UInt8.ofNat x.toNat == ((10 : Int).toNat.toUInt8)) = true) ↔ x = 10 := by
      rw [beq_iff_eq, ← UInt8.toNat_inj]
      simp
      omega
    have e2 : Lib.bytesOf (x :: t) = UInt8.ofNat x.toNat :: Lib.bytesOf t := rfl
    rw [e2, Lib.indexByte, hix]
    by_cases hx : x = 10
    · rw [if_pos (e.2 hx), if_pos hx]
    · rw [if_neg (fun k => hx (e.1 k)), if_neg hx, ih]
      simp only [beq_iff_eq]

theorem indexByte_any (v : Value) (xs : List Int) (w : World) (h : SlV w v (U xs)) (hb : Byt xs) :
    Calls Tryd.prog 38 #[v, .int .u8 10] w fun e w' => e = .returned (.int .i64 (ix xs)) ∧ w = w' := by
  have hr : (Extern.BytealgIndexByte.indexByte #[v, .int .u8 10]).run Tryd.prog w = .ok (.int .i64 (ix xs)) w := by
    obtain ⟨a, cap, rfl, h1, h2, h3, h4⟩ := h
    rw [← at10_byte hb]
    by_cases hp : 0 < xs.length
    · obtain ⟨b, off, rfl, hc⟩ := h4 (by rw [U_length]; exact hp)
      exact Lib.run_indexByteSlice w b off _ cap xs (U_length xs).symm (fun i hi => by rw [U_length] at hi; exact hc i _ (U_getD hi)) 10
    · obtain rfl : xs = [] := List.eq_nil_of_length_eq_zero (by omega)
      cases a with
      | none =>
        have := h3 rfl; subst this
        exact Lib.run_indexByteNil w 0 0 10
      | some ad =>
        show (Extern.BytealgIndexByte.indexByte #[.slice (some ad) 0 cap, .int .u8 10]).run Tryd.prog w = _
        rfl
  go_enter Tryd.func38, Tryd.ntmps38
  go_wp2
  rw [run_callFunc_extern Tryd.func46 (by kernel_rfl) (by kernel_rfl) (by kernel_rfl) (e := Extern.BytealgIndexByte.indexByte) (by kernel_rfl), hr]
  simp only [Result.andThen]
  rw [Oper.upon_value]
  go_wp2
  go_ret
  exact ⟨rfl, rfl⟩

/-- bytes.Index at a separator of one byte, 10. -/
theorem index_any (v sv : Value) (xs : List Int) (w : World) (h : SlV w v (U xs)) (hb : Byt xs) (hs : SlV w sv (U [10])) :
    Calls Tryd.prog 32 #[v, sv] w fun e w' => e = .returned (.int .i64 (ix xs)) ∧ w = w' := by
  obtain ⟨sa, sc, rfl, s1, s2⟩ := hs.shapeU rfl
  obtain ⟨b, off, rfl, hbl, hcell⟩ := hs.cells (by simp [U])
  have hc0 : w.cell? ⟨b, off, none⟩ = some (.int .u8 10) := by simpa using hcell 0 _ rfl
  have hcon := indexByte_any v xs w h hb
  obtain ⟨r, hr⟩ : ∃ r, ix xs = r := ⟨_, rfl⟩
  rw [hr] at hcon ⊢
  obtain ⟨a, cap, rfl, h1, h2⟩ := h.shapeU rfl
  clear hcell h
  go_enter Tryd.func32, Tryd.ntmps32
  go_wp2_with (go_at_call 38; refine hcon.mono ?_; rintro e w' ⟨rfl, rfl⟩)
  go_ret
  exact ⟨rfl, rfl⟩

/-- x[l:l+m], l not 0, the address as the walk writes it. -/
theorem SlV.cutS {w : World} {a : Option Addr} {n cap : Nat} {xs : List Value} (h : SlV w (.slice a n cap) xs) (l m : Nat) (hl : l + m ≤ n) : SlV w (.slice (Option.map (fun x => { block := x.block, off := x.off + l }) a) m (cap - l)) ((xs.drop l).take m) := by
  obtain ⟨a', c', he, q1, q2, q3, q4⟩ := h.cut l m hl
  simp only [Value.slice.injEq] at he
  obtain ⟨e1, hm, e3⟩ := he
  subst e1; subst e3
  refine ⟨Option.map (fun x => { block := x.block, off := x.off + l }) a, cap - l, by rw [← hm], q1, q2, ?_, fun hp => ?_⟩
  · intro hn; refine q3 ?_; cases a with
    | none => rfl
    | some ad => simp at hn
  obtain ⟨b, off, hb, hc⟩ := q4 hp
  cases a with
  | none => simp at hb
  | some ad =>
    refine ⟨b, off, ?_, hc⟩
    obtain ⟨b0, o0, s0⟩ := ad
    simp only [Option.map_some, Option.some.injEq] at hb ⊢
    unfold Addr.add at hb
    split at hb
    · rename_i h0; subst h0; cases hb; rfl
    · cases hb; rfl
/-- v' reads as ys wherever v reads as xs. -/
def Sub (v : Value) (xs : List Int) (v' : Value) (ys : List Int) : Prop := ∀ w : World, SlV w v (U xs) → SlV w v' (U ys)
theorem cut_none (v sv : Value) (xs : List Int) (w : World) (hS : SlV w v (U xs)) (hb : Byt xs) (hs : SlV w sv (U [10])) (hi : at10 xs = none) :
    Calls Tryd.prog 28 #[v, sv] w fun e w' => e = .returned (.tuple #[v, .slice none 0 0, .bool false]) ∧ w = w' := by
  have hcon := index_any v sv xs w hS hb hs
  rw [ix_none hi] at hcon
  go_enter Tryd.func28, Tryd.ntmps28
  go_wp2_with (go_at_call 32; refine hcon.mono ?_; rintro e w' ⟨rfl, rfl⟩)
  go_ret3
  exact ⟨rfl, rfl⟩
theorem cut_some (v sv : Value) (xs : List Int) (w : World) (hS : SlV w v (U xs)) (hb : Byt xs) (hs : SlV w sv (U [10])) (i : Nat) (hi : at10 xs = some i) :
    Calls Tryd.prog 28 #[v, sv] w fun e w' => ∃ v1 v2, e = .returned (.tuple #[v1, v2, .bool true]) ∧ Sub v xs v1 (xs.take i) ∧ Sub v xs v2 (xs.drop (i + 1)) ∧ ∃ q, w' = w.drewN q := by
  have hcon := index_any v sv xs w hS hb hs
  rw [ix_some hi] at hcon
  have hlt := (at10_some hi).1
  obtain ⟨sa, sc, rfl, s1, s2⟩ := hs.shapeU rfl
  obtain ⟨N, hN⟩ : ∃ N, xs.length = N := ⟨_, rfl⟩
  have h' := hS
  obtain ⟨a, cap, rfl, h1, h2⟩ := h'.shapeU hN
  have hm : maxLen = 9223372036854775807 := rfl
  go_enter Tryd.func28, Tryd.ntmps28
  go_wp2_with (go_at_call 32; refine hcon.mono ?_; rintro e w' ⟨rfl, rfl⟩)
  have p1 : Sub (.slice a N cap) xs (.slice a i cap) (xs.take i) := fun w hS => by rw [U_take]; exact hS.upto i (by omega)
  have p2 : cap = i + 1 → Sub (.slice a N cap) xs (.slice a (N - (i + 1)) 0) (xs.drop (i + 1)) := fun hc w hS => by
    have := hS.cutEnd (i + 1) (N - (i + 1)) (by omega) hc
    rwa [List.take_of_length_le (by rw [List.length_drop, U_length]; omega), ← U_drop] at this
  have p3 : Sub (.slice a N cap) xs (.slice (Option.map (fun x => { block := x.block, off := x.off + (i + 1) }) a) (N - (i + 1)) (cap - (i + 1))) (xs.drop (i + 1)) := fun w hS => by
    have := SlV.cutS hS (i + 1) (N - (i + 1)) (by omega)
    rwa [List.take_of_length_le (by rw [List.length_drop, U_length]; omega), ← U_drop] at this
  have P1 := Away.mk p1; have P2 := Away.mk p2; have P3 := Away.mk p3
  clear p1 p2 p3 hS hs
  go_quiet (fail)
  go_wp2
  · go_ret3
    subst h
    exact ⟨.slice a i (i + 1), .slice a (N - (i + 1)) 0, rfl, P1.out, P2.out rfl, _, rfl⟩
  · go_ret3
    exact ⟨.slice a i cap, _, rfl, P1.out, P3.out, _, rfl⟩
theorem last_drop {xs : List Int} {N : Nat} (hN : xs.length = N + 1) : ∃ x, xs.drop N = [x] ∧ xs.getLast? = some x ∧ x ∈ xs ∧ xs.dropLast = xs.take N := by
  have h1 : xs.drop N = [xs[N]'(by omega)] := by
    rw [List.drop_eq_getElem_cons (by omega), List.drop_eq_nil_of_le (by omega)]
  refine ⟨xs[N]'(by omega), h1, ?_, List.getElem_mem _, ?_⟩
  · rw [List.getLast?_eq_getElem?, show xs.length - 1 = N by omega, List.getElem?_eq_getElem (by omega)]
  · rw [List.dropLast_eq_take, hN]; rfl
theorem hasSuffix_any (v sv : Value) (xs : List Int) (w : World) (h : SlV w v (U xs)) (hb : Byt xs) (hs : SlV w sv (U [13])) :
    Calls Tryd.prog 33 #[v, sv] w fun e w' => e = .returned (.bool (decide (xs.getLast? = some 13))) ∧ w = w' := by
  have b13 : Byt [13] := by intro n hn; simp at hn; omega
  have hs' := hs
  obtain ⟨sa, sc, rfl, s1, s2⟩ := hs'.shapeU rfl
  have hm : maxLen = 9223372036854775807 := rfl
  obtain ⟨N, hN⟩ : ∃ N, xs.length = N := ⟨_, rfl⟩
  have h' := h
  obtain ⟨a, cap, rfl, h1, h2⟩ := h'.shapeU hN
  cases N with
  | zero =>
    obtain rfl : xs = [] := List.eq_nil_of_length_eq_zero hN
    go_enter Tryd.func33, Tryd.ntmps33
    go_wp2
    go_ret
    exact ⟨rfl, rfl⟩
  | succ N =>
    obtain ⟨x, d1, d2, d3, _⟩ := last_drop hN
    have hx := hb x d3
    have bx : Byt [x] := by intro n hn; simp at hn; subst hn; exact hx
    have e1 : decide (xs.getLast? = some 13) = decide (x = 13) := by rw [d2]; simp
    rw [e1]
    have hcut := h.cut N 1 (by omega)
    rw [← U_drop, d1, show List.take 1 (U [x]) = U [x] from rfl] at hcut
    go_enter Tryd.func33, Tryd.ntmps33
    go_wp2_with (go_at_call 39; refine (equal_any _ _ [x] [13] _ hcut hs bx b13).mono ?_; rintro e w' ⟨rfl, rfl⟩)
    go_ret
    exact ⟨rfl, rfl⟩
theorem trimSuffix_any (v sv : Value) (xs : List Int) (w : World) (h : SlV w v (U xs)) (hb : Byt xs) (hs : SlV w sv (U [13])) :
    Calls Tryd.prog 29 #[v, sv] w fun e w' => ∃ v', e = .returned v' ∧ Sub v xs v' (strip xs) ∧ w = w' := by
  have hcon := hasSuffix_any v sv xs w h hb hs
  obtain ⟨sa, sc, rfl, s1, s2⟩ := hs.shapeU rfl
  obtain ⟨N, hN⟩ : ∃ N, xs.length = N := ⟨_, rfl⟩
  have h' := h
  obtain ⟨a, cap, rfl, h1, h2⟩ := h.shapeU hN
  have hm : maxLen = 9223372036854775807 := rfl
  by_cases hl : xs.getLast? = some 13
  · rw [decide_eq_true hl] at hcon
    have hp : 0 < N := by
      cases xs with
      | nil => simp at hl
      | cons x t => simp at hN; omega
    go_enter Tryd.func29, Tryd.ntmps29
    go_wp2_with (go_at_call 33; refine hcon.mono ?_; rintro e w' ⟨rfl, rfl⟩)
    go_ret
    obtain ⟨M, rfl⟩ : ∃ M, N = M + 1 := ⟨N - 1, by omega⟩
    obtain ⟨x, d1, d2, d3, d4⟩ := last_drop hN
    refine ⟨_, rfl, fun w hS => ?_, rfl⟩
    rw [strip, if_pos hl, d4, U_take]
    exact hS.upto M (by omega)
  · rw [decide_eq_false hl] at hcon
    go_enter Tryd.func29, Tryd.ntmps29
    go_wp2_with (go_at_call 33; refine hcon.mono ?_; rintro e w' ⟨rfl, rfl⟩)
    go_ret
    exact ⟨_, rfl, fun w hS => by rw [strip_keep hl]; exact hS, rfl⟩

/-- bytes.Clone: nil of nil, else a slice of the call's own. -/
theorem clone_any (v : Value) (xs : List Int) (w : World) (hs : SlV w v (U xs)) (hm : xs.length ≤ 1000000) :
    Calls Tryd.prog 22 #[v] w fun e w' => ∃ v', e = .returned v' ∧ w'.ownsRow w.heap.size 5 1 v' xs.length (U xs) ∧ Below w.heap.size w w' := by
  obtain ⟨N, hN⟩ : ∃ N, xs.length = N := ⟨_, rfl⟩
  have hs' := hs
  obtain ⟨sa, sc, rfl, h1, h2⟩ := hs'.shapeU hN
  rw [hN]
  have qT : ∀ (w : World) (a : Option Addr) (n c n' c' : Nat), (binOp .eql 22 (.slice a n c) (.slice none n' c')).run Tryd.prog w = .ok (.bool a.isNone) w := fun w a n c n' c' => Lib.run_eql_slice_nil w _ _ a n c n' c' Tryd.underlying22
  cases sa with
  | none =>
    have h0 : N = 0 := by
      by_cases hp : 0 < N
      · obtain ⟨b, off, e, _⟩ := hs.cells (by rw [U_length]; omega)
        cases e
      · omega
    subst h0
    obtain rfl : xs = [] := List.eq_nil_of_length_eq_zero hN
    go_enter Tryd.func22, Tryd.ntmps22
    go_wp2
    go_ret
    exact ⟨_, rfl, World.ownsRow_nil w _ _ _, Below.refl _ _⟩
  | some ad =>
    have hA : Below w.heap.size w (w.alloc (.cells #[] 5)) := (Below.refl _ _).alloc (Nat.le_refl _) _
    have hsA := hs.below hA
    have hoA := own_empty w w.heap.size 5 (Nat.le_refl _)
    go_enter Tryd.func22, Tryd.ntmps22
    go_wp2_with (at_builtin; refine wpList_append_sl rfl (.tmp 5) (.tmp 6) 22 rfl w.heap.size 5 _ 1 Tryd.underlying22 inf8 rfl _ 0 [] rfl hoA _ (U xs) rfl hsA (U_one _) (by rw [U_length]; unfold maxLen; omega) (by rw [U_length]; omega) (by simp) ?_)
    intro v1 w1 ho1 hg1
    have hb1 : Below w.heap.size w w1 := hA.grown hg1 hA.size (fun k hk => (hoA.lt k hk).1)
    have ho1 : w1.ownsRow w.heap.size 5 1 v1 N (U xs) := by simpa [U_length, hN] using ho1
    go_wp2
    go_ret
    exact ⟨_, rfl, ho1, hb1⟩
end Go.Proofs.YtcllmkfaifalgaaDoor.T
