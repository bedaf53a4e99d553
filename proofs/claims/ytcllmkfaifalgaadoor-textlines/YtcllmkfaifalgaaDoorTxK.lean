/-
  IsWord: the program's, by runes, and the document's, by bytes. No condition.
-/
import Derived.Test.YtcllmkfaifalgaaDoorKit2
import Derived.Test.YtcllmkfaifalgaaDoorRows
import Derived.Laws.RangeAny
namespace Go.Proofs.YtcllmkfaifalgaaDoor.T
open Go Go.RowKit
set_option linter.unusedVariables false
set_option maxRecDepth 100000

/-- The first k bytes are letters of a word. -/
def wok (s : ByteArray) (k : Nat) : Prop := ∀ (i : Nat) (h : i < s.size), i < k → 33 ≤ (s[i]'h).toNat ∧ (s[i]'h).toNat ≤ 126
def isw (s : ByteArray) : Bool := decide (1 ≤ s.size) && decide (s.size ≤ 60) && s.data.toList.all fun b => decide (33 ≤ b.toNat) && decide (b.toNat ≤ 126)
theorem wok_all (s : ByteArray) : (s.data.toList.all fun b => decide (33 ≤ b.toNat) && decide (b.toNat ≤ 126)) = true ↔ wok s s.size := by
  rw [List.all_eq_true]
  constructor
  · intro h i hi _
    have hm : s[i]'hi ∈ s.data.toList := by
      have : s[i]'hi = s.data[i]'hi := rfl
      rw [this, Array.mem_toList_iff]; exact Array.getElem_mem _
    simpa using h _ hm
  · intro h b hb
    rw [Array.mem_toList_iff] at hb
    obtain ⟨i, hi, rfl⟩ := Array.mem_iff_getElem.1 hb
    have h3 := h i hi hi
    rw [Bool.and_eq_true]
    exact ⟨decide_eq_true h3.1, decide_eq_true h3.2⟩
theorem wok_more {s : ByteArray} {k : Nat} (h : wok s k) (hk : k < s.size) (h1 : 33 ≤ (s[k]'hk).toNat) (h2 : (s[k]'hk).toNat ≤ 126) : wok s (k + 1) := fun i hi hik => by
  by_cases e : i = k
  · subst e; exact ⟨h1, h2⟩
  · exact h i hi (by omega)
theorem isw_yes {s : ByteArray} (h1 : 1 ≤ s.size) (h2 : s.size ≤ 60) (h : wok s s.size) : isw s = true := by
  unfold isw; rw [decide_eq_true h1, decide_eq_true h2, (wok_all s).2 h]; rfl
theorem isw_no {s : ByteArray} {k : Nat} (hk : k < s.size) (h : ¬ (33 ≤ (s[k]'hk).toNat ∧ (s[k]'hk).toNat ≤ 126)) : isw s = false := by
  unfold isw
  rw [Bool.eq_false_iff]
  intro h2
  rw [Bool.and_eq_true] at h2
  exact h ((wok_all s).1 h2.2 k hk hk)
theorem isw_size {s : ByteArray} (h : ¬ (1 ≤ s.size ∧ s.size ≤ 60)) : isw s = false := by
  unfold isw
  rw [Bool.eq_false_iff]
  intro h2
  rw [Bool.and_eq_true, Bool.and_eq_true] at h2
  exact h ⟨of_decide_eq_true h2.1.1, of_decide_eq_true h2.1.2⟩
/-- What a step over a string's runes tells of the byte there. -/
theorem rune_ok (s : ByteArray) (k : Nat) (hk : k < s.size) (h1 : 33 ≤ (Utf8.decode s k).1) (h2 : (Utf8.decode s k).1 ≤ 126) : (Utf8.decode s k).2 = 1 ∧ 33 ≤ (s[k]'hk).toNat ∧ (s[k]'hk).toNat ≤ 126 := by
  by_cases ha : (s[k]'hk).toNat < 128
  · have := decode_ascii s k hk ha
    rw [this] at h1 h2 ⊢
    exact ⟨rfl, h1, h2⟩
  · have := (decode_high s k hk (by omega)).1
    omega
theorem rune_no (s : ByteArray) (k : Nat) (hk : k < s.size) (h : ¬ (33 ≤ (Utf8.decode s k).1 ∧ (Utf8.decode s k).1 ≤ 126)) : ¬ (33 ≤ (s[k]'hk).toNat ∧ (s[k]'hk).toNat ≤ 126) := by
  by_cases ha : (s[k]'hk).toNat < 128
  · have := decode_ascii s k hk ha
    rw [this] at h; exact h
  · omega

set_option maxHeartbeats 1000000 in
theorem isWord_any (s : ByteArray) (w : World) :
    Calls Tryd.prog 19 #[.string s] w fun e w' => e = .returned (.bool (isw s)) ∧ Below w.heap.size w w' := by
  by_cases h0 : s.size < 1
  · have hf := isw_size (s := s) (by omega)
    have hz : s.size = 0 := by omega
    go_enter Tryd.func19, Tryd.ntmps19
    go_wp2
    go_ret
    exact ⟨by rw [hf]; rfl, Below.refl _ _⟩
  by_cases h60 : 60 < s.size
  · have hf := isw_size (s := s) (by omega)
    have hp : ¬ s.size = 0 := by omega
    go_enter Tryd.func19, Tryd.ntmps19
    go_wp2
    go_ret
    exact ⟨by rw [hf]; rfl, Below.refl _ _⟩
  have hp : ¬ s.size = 0 := by omega
  go_enter Tryd.func19, Tryd.ntmps19
  go_wp2
  go_loopw [4] (fun r wr => ∃ k : Nat, k ≤ s.size ∧ wr = w.iter s k ∧ wok s k) (fun _ wr => s.size - wr.iterPos w.heap.size)
  case atStart => exact ⟨0, by omega, rfl, fun i _ h => by omega⟩
  case round =>
    obtain ⟨k, hk, rfl, hw⟩ := hrel
    have hB : Below w.heap.size w (w.iter s k) := (Below.refl _ w).alloc (Nat.le_refl _) _
    by_cases hkl : k = s.size
    · have hne := fun ty => run_next_end (P := Tryd.prog) w s k ty (by omega)
      have hf := isw_yes (s := s) (by omega) (by omega) (by rw [← hkl]; exact hw)
      clear hkl
      go_wp2
      go_ret
      exact ⟨by rw [hf]; rfl, hB⟩
    · have hk1 : k < s.size := by omega
      have hne := fun ty => run_next_any (P := Tryd.prog) w s k ty hk1
      have hok := rune_ok s k hk1
      have hno := fun h => isw_no hk1 (rune_no s k hk1 h)
      have hle := decode_le s k
      generalize Utf8.decode s k = d at *
      obtain ⟨r, st⟩ := d
      dsimp only at *
      by_cases h1 : 33 ≤ r
      · by_cases h2 : r ≤ 126
        · obtain ⟨rfl, q1, q2⟩ := hok h1 h2
          have HW := Away.mk (wok_more hw hk1 q1 q2)
          clear hno hok q1 q2 hw
          go_wp2
          go_roundw
          case rel => exact ⟨k + 1, by omega, rfl, HW.out⟩
          case measure => simp; omega
        · have hf := hno (by omega)
          have HF := Away.mk hf
          clear hno hok hf hw
          go_wp2
          go_ret
          exact ⟨by rw [HF.out]; rfl, (Below.refl _ w).alloc (Nat.le_refl _) _⟩
      · have hf := hno (by omega)
        have HF := Away.mk hf
        clear hno hok hf hw
        go_wp2
        go_ret
        exact ⟨by rw [HF.out]; rfl, (Below.refl _ w).alloc (Nat.le_refl _) _⟩

set_option maxHeartbeats 1000000 in
theorem refword_any (s : ByteArray) (w : World) (hs : s.size ≤ 1000000) :
    Calls Tryd.prog 20 #[.string s] w fun e w' => e = .returned (.bool (isw s)) ∧ Below w.heap.size w w' := by
  go_enter Tryd.func20, Tryd.ntmps20
  go_wp2
  go_loopw [3] (fun i wr => ∃ k : Nat, k ≤ s.size ∧ i = .int .i64 k ∧ wr = w ∧ wok s k) (fun i _ => match i with | .int _ k => s.size - k.toNat | _ => 0)
  case atStart => exact ⟨0, by omega, rfl, rfl, fun i _ h => by omega⟩
  case round =>
    obtain ⟨k, hk, rfl, rfl, hw⟩ := hrel
    by_cases hkl : k = s.size
    · subst hkl
      by_cases h0 : 1 ≤ s.size
      · by_cases h60 : s.size ≤ 60
        · have HF := Away.mk (isw_yes (s := s) (by omega) (by omega) hw)
          clear hw
          go_wp2
          go_ret
          refine ⟨?_, Below.refl _ _⟩
          rw [HF.out]
          show Ending.returned (.bool (decide ((s.size : Int) ≤ 60))) = _
          rw [decide_eq_true (by omega)]
        · have HF := Away.mk (isw_size (s := s) (by omega))
          clear hw
          go_wp2
          go_ret
          refine ⟨?_, Below.refl _ _⟩
          rw [HF.out]
          show Ending.returned (.bool (decide ((s.size : Int) ≤ 60))) = _
          rw [decide_eq_false (by omega)]
      · have HF := Away.mk (isw_size (s := s) (by omega))
        clear hw
        go_wp2
        go_ret
        exact ⟨by rw [HF.out]; rfl, Below.refl _ _⟩
    · have hk1 : k < s.size := by omega
      by_cases h1 : 33 ≤ (s[k]'hk1).toNat
      · by_cases h2 : (s[k]'hk1).toNat ≤ 126
        · have HW := Away.mk (wok_more hw hk1 h1 h2)
          clear hw
          go_wp2
          go_roundw
          case rel => exact ⟨k + 1, by omega, by go_num, trivial, HW.out⟩
          case measure => simp; omega
        · have HF := Away.mk (isw_no hk1 (by omega))
          clear hw
          go_wp2
          go_ret
          exact ⟨by rw [HF.out]; rfl, Below.refl _ _⟩
      · have HF := Away.mk (isw_no hk1 (by omega))
        clear hw
        go_wp2
        go_ret
        exact ⟨by rw [HF.out]; rfl, Below.refl _ _⟩
end Go.Proofs.YtcllmkfaifalgaaDoor.T
