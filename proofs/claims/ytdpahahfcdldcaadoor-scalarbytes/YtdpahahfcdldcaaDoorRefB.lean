/-
  Contracts of the document's Whole, Same, From, compare, Cmp, over this seat's translation. Conditions: at most 100000 words.
-/
import Derived.Test.YtdpahahfcdldcaaDoorRefA
namespace Go.Proofs.YtdpahahfcdldcaaDoor
open Go.RowKit
set_option linter.unusedVariables false

/-- A slice that reads as the words of N, without noughts at their end. -/
def RA (w : World) (v : Value) (N : Nat) : Prop := ∃ zs, Is W32 N zs ∧ SlV w v (C .u32 zs)
theorem RA.below {w w' : World} {v : Value} {N : Nat} (h : RA w v N) (hb : Below w.heap.size w w') : RA w' v N := by
  obtain ⟨zs, h1, h2⟩ := h; exact ⟨zs, h1, h2.below hb⟩
theorem Ans.ra {B : Nat} {w : World} {v : Value} {N : Nat} (h : Ans B w v N) : RA w v N := by
  obtain ⟨zs, h1, h2, _⟩ := h; exact ⟨zs, h1, h2⟩

set_option maxHeartbeats 1000000 in
theorem whole_any (v : Value) (ds : List Nat) (w : World) (hs : SlV w v (C .u64 ds)) (hl : Lo W16 ds) (hm : ds.length ≤ 1000000) :
    Calls Tryd.prog 48 #[v] w fun e w' => ∃ v', e = .returned v' ∧ RA w' v' (val W16 ds) ∧ Below w.heap.size w w' := by
  have HT := Away.mk (trim_any v ds w hs hl hm)
  clear hs
  go_enter Tryd.func48, Tryd.ntmps48
  go_wp2_with fail
  refine HT.out.mono ?_
  rintro _ w1 ⟨v', es, rfl, hI, hle, hs, rfl⟩
  obtain ⟨n, hn⟩ : ∃ n, es.length = n := ⟨_, rfl⟩
  obtain ⟨a, cap, rfl, q1, r1⟩ := hs.shapeC hn
  have hnm : n ≤ 1000000 := by omega
  have helo := hI.2.1
  have HS := Away.mk hs; have HI := Away.mk hI
  clear hs hI HT
  go_wp2
  go_loopw [3, 4] (fun av iv wr => ∃ (k i : Nat) (ws : List Nat), i = 2 * k ∧ i ≤ n + 1 ∧ iv = .int .i64 (i : Int) ∧ ws.length = k ∧ Lo W32 ws ∧ val W32 ws = val W16 (es.take i) ∧ wr.ownsRow w.heap.size 55 1 av k (C .u32 ws) ∧ Below w.heap.size w wr) (fun _ i _ => n + 2 - (intOf i).toNat)
  case atStart => exact ⟨0, 0, [], rfl, by omega, rfl, rfl, Lo.nil _, by simp [val], own_empty w _ _ (Nat.le_refl _), (Below.refl _ _).alloc (Nat.le_refl _) _⟩
  case round =>
    obtain ⟨k, i, ws, hik, hi, rfl, hal, halo, hval, hown, hb⟩ := hrel
    have HIK := Away.mk hik
    have hk : k ≤ 1000000 := by omega
    clear hik
    by_cases hlt : i < n
    · obtain ⟨b, off, rfl, hbl, hcx⟩ := HS.out.cells (by rw [C_length]; omega)
      have hck : wr.cell? ⟨b, off + i, none⟩ = some (.int .u64 (es.getD i 0 : Nat)) := (hb.cell (p := ⟨b, off + i, none⟩) hbl).trans (hcx i _ (C_get _ (by omega)))
      have hx0 : es.getD i 0 < 65536 := helo.getD (by decide) _
      have hx1 : es.getD (i + 1) 0 < 65536 := helo.getD (by decide) _
      have hv1 := val_take_succ (B := W16) es i
      have hv2 := val_take_succ (B := W16) es (i + 1)
      rw [hv1, Nat.pow_succ] at hv2
      have HO := Away.mk hown; have HB := Away.mk hb; have H1 := Away.mk hval; have H2 := Away.mk hv2; have HL := Away.mk halo
      obtain ⟨x, hx⟩ : ∃ x, es.getD i 0 = x := ⟨_, rfl⟩
      obtain ⟨y, hy⟩ : ∃ y, es.getD (i + 1) 0 = y := ⟨_, rfl⟩
      rw [hx] at hck hx0 H2
      rw [hy] at hx1 H2
      have hrel2 : ∀ (z : Nat) (v2 : Value) (w2 : World), z = x + 65536 * y → w2.ownsRow w.heap.size 55 1 v2 (k + 1) (C .u32 ws ++ [.int .u32 (z : Int)]) → Below w.heap.size w w2 →
          ∃ (k' i' : Nat) (ws' : List Nat), i' = 2 * k' ∧ i' ≤ n + 1 ∧ Value.int .i64 ((i : Int) + 2) = .int .i64 (i' : Int) ∧ ws'.length = k' ∧ Lo W32 ws' ∧ val W32 ws' = val W16 (es.take i') ∧ w2.ownsRow w.heap.size 55 1 v2 k' (C .u32 ws') ∧ Below w.heap.size w w2 := fun z v2 w2 hz h2 h3 => by
        refine ⟨k + 1, i + 2, ws ++ [z], by have := HIK.out; omega, by omega, by simp, by simp [hal], HL.out.append (by intro u hu; show u < 4294967296; simp at hu; omega), ?_, by rw [C_append]; exact h2, h3⟩
        have h4 := H2.out
        rw [HIK.out, Nat.pow_mul] at h4
        rw [val_append, val_one, hal, H1.out, HIK.out, h4, hz]
        simp only [W16, W32, Nat.reducePow]
        generalize 4294967296 ^ k = P
        generalize val 65536 (es.take (2 * k)) = T
        grind
      have HR := Away.mk hrel2
      clear hcx hown hb hval hv1 hv2 halo hx hrel2
      obtain ⟨z, hz⟩ : ∃ z, x + 65536 * y = z := ⟨_, rfl⟩
      have hzb : z < 4294967296 := by omega
      by_cases hlt2 : i + 1 < n
      · have hck2 : wr.cell? ⟨b, off + (i + 1), none⟩ = some (.int .u64 (y : Nat)) := by
          rw [← hy]
          obtain ⟨b', off', e', hbl', hcx⟩ := HS.out.cells (by rw [C_length]; omega)
          cases e'
          exact (HB.out.cell (p := ⟨b, off + (i + 1), none⟩) hbl').trans (hcx (i + 1) _ (C_get _ (by omega)))
        have hzi : (x : Int) + (y : Int) * 65536 = (z : Int) := by omega
        have HZ := Away.mk hz
        clear hy hz
        go_wp2_with (at_builtin; refine wpList_append_sl rfl (.tmp 32) (.tmp 35) 44 rfl w.heap.size 55 (.int .u32 0) 4 Tryd.underlying44 Tryd.info55 rfl _ k _ rfl (HO.out.alloc _) _ [.int .u32 (z : Int)] rfl (SlV_one _ _ _) (by simp [Value.oneCell']) (by simp; unfold maxLen; omega) (by simp; omega) (by have := HB.out.size; simp; omega) ?_)
        intro v2 w2 hown2 hg2
        have hb2 : Below w.heap.size w w2 := (HB.out.alloc HB.out.size _).grown hg2 (by have := HB.out.size; simp; omega) (fun j e => (HO.out.lt j e).1)
        have HO2 := Away.mk hown2; have HB2 := Away.mk hb2
        clear hown2 hg2 hb2
        go_wp2
        go_roundw
        case rel => exact HR.out z _ _ HZ.out.symm HO2.out HB2.out
        case measure => simp [intOf]; omega
      · have hy0 : y = 0 := by rw [← hy]; exact getD_past (by omega)
        subst hy0
        have hzx : z = x := by omega
        subst hzx
        clear hy
        have d1 : decide (i + 1 < n) = false := decide_eq_false hlt2
        go_wp2_with (at_builtin; refine wpList_append_sl rfl (.tmp 32) (.tmp 35) 44 rfl w.heap.size 55 (.int .u32 0) 4 Tryd.underlying44 Tryd.info55 rfl _ k _ rfl (HO.out.alloc _) _ [.int .u32 (z : Int)] rfl (SlV_one _ _ _) (by simp [Value.oneCell']) (by simp; unfold maxLen; omega) (by simp; omega) (by have := HB.out.size; simp; omega) ?_)
        intro v2 w2 hown2 hg2
        have hb2 : Below w.heap.size w w2 := (HB.out.alloc HB.out.size _).grown hg2 (by have := HB.out.size; simp; omega) (fun j e => (HO.out.lt j e).1)
        have HO2 := Away.mk hown2; have HB2 := Away.mk hb2
        clear hown2 hg2 hb2
        go_wp2
        go_roundw
        case rel => exact HR.out z _ _ (by omega) HO2.out HB2.out
        case measure => simp [intOf]; omega
    · rw [List.take_of_length_le (by omega), HI.out.1] at hval
      have hans : RA wr u3 (val W16 ds) := by
        refine ⟨ws, ⟨hval, halo, fun hp => ?_⟩, SlV.ofOwn hown⟩
        have h1 := HI.out.2.2 (by have := HIK.out; omega)
        refine Nat.le_trans ?_ h1
        rw [pow32, pow16]
        exact Nat.pow_le_pow_right (by decide) (by have := HIK.out; omega)
      have HA := Away.mk hans; have HB := Away.mk hb
      clear hval hown hb hans
      go_wp2
      go_ret
      exact ⟨_, rfl, HA.out, HB.out⟩

end Go.Proofs.YtdpahahfcdldcaaDoor
