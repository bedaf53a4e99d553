/-
  More of my own small kit, over whatever program: a region that draws its order and whose last operation writes over what the others read: the reads may be taken first all the same, since the last one waits for each of them. Conditions: as each says.
-/
import Derived.Test.YtdpahahfcdldcaaDoorKit6
import Derived.Deep.RegionHeld3
namespace Go.Proofs.YtdpahahfcdldcaaDoor
open Go.RowKit
set_option linter.unusedVariables false

section
variable {P : Program} {md : Region.Mode} {ops : Array Oper} {Q : Exit → Act → World → Prop} {S : World → Prop} {z : Nat}
/-- In any order; S holds behind each operation but number z. -/
def wpAnyU (P : Program) (md : Region.Mode) (ops : Array Oper) (Q : Exit → Act → World → Prop) (S : World → Prop) (z : Nat) : Nat → Array Bool → Act → World → Prop
  | 0, l, a, w => Region.ready md ops l = [] ∧ Q .normal a w
  | n + 1, l, a, w => (Region.ready md ops l = [] → Q .normal a w) ∧ ∀ j, j ∈ Region.ready md ops l → wpOp P ops Q j (fun a' w' => (j ≠ z → S w') ∧ wpAnyU P md ops Q S z n (l.setIfInBounds j true) a' w') a w
theorem wpAny_of_U (n : Nat) : ∀ (l : Array Bool) (a : Act) (w : World), wpAnyU P md ops Q S z n l a w → wpAny P md ops Q n l a w := by
  induction n with
  | zero => intro l a w h; exact h
  | succ n ih => intro l a w h; exact ⟨h.1, fun j hj => wpOp_mono (fun a' w' hh => ih _ _ _ hh.2) (h.2 j hj)⟩
/-- Number z waits for number i. -/
def Waits (md : Region.Mode) (ops : Array Oper) (z i : Nat) : Bool := match ops[z]? with | some o => o.after.any fun e => Region.binds md e && e.on == i | none => false
/-- What is not listed is waited for in vain. -/
theorem not_ready_of_waits {l : Array Bool} {i : Nat} (hw : Waits md ops z i = true) (hi : l.getD i true = false) : z ∉ Region.ready md ops l := by
  intro hz
  obtain ⟨_, o, ho, hall⟩ := mem_ready.1 hz
  unfold Waits at hw
  rw [ho] at hw
  simp only [Array.any_eq_true'] at hw
  obtain ⟨e, he, hb⟩ := hw
  simp only [Bool.and_eq_true, beq_iff_eq] at hb
  have h1 := hall e he hb.1
  rw [hb.2] at h1
  by_cases hlt : i < l.size
  · simp [Array.getD, hlt] at hi h1
    rw [hi] at h1; cases h1
  · simp [Array.getD, hlt] at h1
/-- A read that number z waits for may be taken first. -/
theorem wpAnyU_first {i : Nat} {oi : Oper} {v : Value} (hi : ops[i]? = some oi) (hsel : Region.noSelect ops = true) (hw : Waits md ops z i = true)
    (hQ : ∀ c a w, Q (.panic c) (a.put oi.dst v) w → Q (.panic c) a w) (n : Nat) :
    ∀ (l : Array Bool) (a : Act) (w : World), (∀ j oj, ops[j]? = some oj → j ≠ i → l.getD j true = false → (∀ e ∈ oj.after, Region.binds md e = true → e.on ≠ i) → oi.apart ops oj = true) →
      i ∈ Region.ready md ops l → YieldsIf P ops S oi v a → S w → wpAnyU P md ops Q S z n (l.setIfInBounds i true) (a.put oi.dst v) w → wpAnyU P md ops Q S z (n + 1) l a w := by
  have hsp := Region.noSelect_spec hsel
  induction n with
  | zero =>
    intro l a w _ hr hy hS H
    refine ⟨fun h0 => absurd hr (by rw [h0]; simp), fun j hj => ?_⟩
    by_cases e : j = i
    · subst e; exact hy.wpOp hi hS ⟨fun _ => hS, H⟩
    · exact absurd (ready_mono hj e) (by rw [H.1]; simp)
  | succ n ih =>
    intro l a w hfree hr hy hS H
    refine ⟨fun h0 => absurd hr (by rw [h0]; simp), fun j hj => ?_⟩
    by_cases e : j = i
    · subst e; exact hy.wpOp hi hS ⟨fun _ => hS, H⟩
    · have hil := (mem_ready.1 hr).1
      have hjz : j ≠ z := fun hz => not_ready_of_waits hw hil (hz ▸ hj)
      obtain ⟨hjl, oj, hoj, hjall⟩ := mem_ready.1 hj
      have hno : ∀ x ∈ oj.after, Region.binds md x = true → x.on ≠ i := fun x hx hb hxi => by
        have := hjall x hx hb
        rw [hxi] at this
        by_cases hlt : i < l.size
        · simp [Array.getD, hlt] at hil this
          rw [hil] at this; cases this
        · simp [Array.getD, hlt] at this
      have hstep := wpOp_putIf hoj (hfree j oj hoj e hjl hno) (fun cs b => hsp i oi cs b hi) (fun cs b => hsp j oj cs b hoj) hQ hy (H.2 j (ready_mono hj e))
      refine wpOp_mono (fun a' w' hh => ?_) hstep
      have hS' := hh.2.1 hjz
      refine ⟨fun _ => hS', ih _ a' w' (fun m om hm hmi hml hmn => ?_) (ready_mono hr (Ne.symm e)) hh.1 hS' ?_⟩
      · refine hfree m om hm hmi ?_ hmn
        by_cases hjm : j = m
        · exact hjm ▸ hjl
        · rwa [getD_set_ne true hjm] at hml
      · have h2 := hh.2.2
        rwa [Array.setIfInBounds_comm _ _ (Ne.symm e)] at h2
end
section
variable {P : Program} {L : List Oper} {Q : Exit → Act → World → Prop} {md : Region.Mode} {S : World → Prop} {z : Nat}
theorem wpAnyU_takeL {i : Nat} {oi : Oper} {v : Value} {fuel : Nat} {listed : Array Bool} {a : Act} {w : World} (hi : L[i]? = some oi) (hwt : Waits md L.toArray z i = true)
    (hs : Region.noSelect L.toArray = true) (hf : Region.free md L.toArray listed i = true) (hr : (Region.ready md L.toArray listed).contains i = true)
    (hQ : ∀ c a w, Q (.panic c) (a.put oi.dst v) w → Q (.panic c) a w) (hw : Region.wanted oi (yielded L.toArray a.tmps) = true) (hy : ∀ w, S w → (execOp a.eval oi).run P w = .ok (.value v) w) (hS : S w)
    (h : wpAnyU P md L.toArray Q S z fuel (listed.setIfInBounds i true) (a.put oi.dst v) w) : wpAnyU P md L.toArray Q S z (fuel + 1) listed a w :=
  wpAnyU_first (getL hi) hs hwt hQ fuel listed a w (Region.free_spec (getL hi) hf) (by simpa using hr) (.inl ⟨hw, hy⟩) hS h
theorem wpAnyU_oneL {fuel : Nat} {listed : Array Bool} {a : Act} {w : World} {i : Nat} {o : Oper} (hr : Region.ready md L.toArray listed = [i]) (ho : L[i]? = some o) (hw : Region.wanted o (yielded L.toArray a.tmps) = true)
    (h : ∀ K' : Act → World → Prop, Shut (∀ a w, (i ≠ z → S w) → ((i ≠ z → S w) → wpAnyU P md L.toArray Q S z fuel (listed.setIfInBounds i true) a w) → K' a w) → Oper.wp P o a w K' Q) : wpAnyU P md L.toArray Q S z (fuel + 1) listed a w := by
  refine ⟨fun h0 => absurd (h0.symm.trans hr) (by simp), fun j hj => ?_⟩
  rw [hr, List.mem_singleton] at hj
  subst hj
  refine wpOp_step (getL ho) fun K' hK => ?_
  rw [if_pos hw]
  exact h K' (fun a w h1 h2 => hK a w ⟨h1, h2 h1⟩)
theorem wpAnyU_done {listed : Array Bool} {a : Act} {w : World} (hr : Region.ready md L.toArray listed = []) (h : Q .normal a w) : ∀ fuel, wpAnyU P md L.toArray Q S z fuel listed a w
  | 0 => ⟨hr, h⟩
  | n + 1 => ⟨fun _ => h, fun j hj => by rw [hr] at hj; cases hj⟩
/-- The beginning. -/
theorem wp_region_U (z : Nat) {id : Nat} {a : Act} {w : World} (hm : P.follows .mixedOrders = true) (hS : S w.drew) (h : S w.drew → wpAnyU P .any L.toArray Q S z L.toArray.size (Array.replicate L.toArray.size false) a w.drew) : (Code.region id L.toArray true).wp P Q a w :=
  wp_region_any hm (wpAny_of_U _ _ _ _ (h hS))
end
end Go.Proofs.YtdpahahfcdldcaaDoor
