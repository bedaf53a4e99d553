/-
  append in a region that draws; four rows carried. No conditions.
-/
import Derived.Test.YtbefchlgonlfiaaRsaP
namespace Go.Proofs.Ytbefchlgonlfiaa.R10
open Go.RowKit
set_option linter.unusedVariables false
set_option maxRecDepth 10000

/-- append(s, x...), s the call's own, x whatever is read: in a region that draws its order. -/
theorem wp_append_sl {P : Program} {w : World} {o : Oper} {a : Act} {K : Act → World → Prop} {Q : Exit → Act → World → Prop} (s x : Operand) (t : TypeId)
    (ho : o.op = .call { callee := .builtin .append, args := #[s, x], argTypes := #[t, t] })
    (base : Nat) (e : TypeId) (z : Value) (bytes : Nat) (ht : P.underlying t = some (.slice e)) (hinfo : (P.info? e).map (fun i => (i.zero, i.size, i.bytes)) = some (some z, 1, bytes)) (hzs : z.cells.size = 1)
    (v : Value) (n : Nat) (xs : List Value) (hs : a.eval s = v) (hown : w.ownsRow base e 1 v n xs) (sv : Value) (ys : List Value) (hx : a.eval x = sv) (hsl : SlV w sv ys) (h1 : ∀ u ∈ ys, u.oneCell' = true)
    (h63 : n + ys.length ≤ maxLen) (hbytes : (n + ys.length) * bytes ≤ 140737488355328) (hbase : base ≤ w.heap.size)
    (h : ∀ v' w', w'.ownsRow base e 1 v' (n + ys.length) (xs ++ ys) → w.grownBy w' v.ownBlock → K (a.put o.dst v') w') : o.wp P a w K Q := by
  obtain ⟨i0, hi, hz0, hz1, hz2⟩ := info_parts hinfo
  obtain ⟨a', c', rfl, hle, hcm, hnone, hc⟩ := hsl
  by_cases h0 : a' = none
  · subst h0
    obtain rfl := hnone rfl
    obtain rfl : ys = [] := List.eq_nil_of_length_eq_zero (by omega)
    have hrun := run_append_owned_none (P := P) (w := w) base t o.type e i0 1 ht hi v n xs hown
    unfold Oper.wp
    simp at hx
    simp [execOp, ho, resolve, invoke, builtin, hs, hx, hrun, Result.andThen]
    exact h v w (by simpa using hown) ⟨rfl, rfl, rfl, Nat.le_refl _, fun _ _ _ => rfl⟩
  · obtain ⟨ad, rfl⟩ := Option.ne_none_iff_exists'.1 h0
    have hnews : ∀ j y, ys[j]? = some y → w.cell? (ad.add j) = some y := by
      intro j u hu
      have hp : 0 < ys.length := by
        have := (List.getElem?_eq_some_iff.1 hu).1
        omega
      obtain ⟨b, off, he, hcell⟩ := hc hp
      simp only [Option.some.injEq] at he
      subst he
      rw [Addr.add_lit]; exact hcell j u hu
    obtain ⟨v', w', hrun, ho', hg', _⟩ := run_append_own (P := P) (w := w) base t o.type e i0 z 1 bytes ht hi hz0 hz1 hz2 hzs (by decide) v n xs hown ad ys.length c' ys (by simp) hnews h1 h63 hbytes hbase
    unfold Oper.wp
    simp [execOp, ho, resolve, invoke, builtin, hs, hx, hrun, Result.andThen]
    exact h v' w' ho' hg'

/-- Two rows besides. -/
structure Hold4 (g : Nat) (sn se sd : Value) (alg : Int) (N E D K : Nat) (v1 v2 v3 v4 : Value) (x1 x2 x3 x4 : List Nat) (w : World) : Prop where
  h : Hold g sn se sd alg N E D K v1 v2 x1 x2 w
  b3 : SlV w v3 (C .u8 x3)
  b4 : SlV w v4 (C .u8 x4)
theorem Hold4.below {g : Nat} {sn se sd : Value} {alg : Int} {N E D K : Nat} {v1 v2 v3 v4 : Value} {x1 x2 x3 x4 : List Nat} {w w' : World} (h : Hold4 g sn se sd alg N E D K v1 v2 v3 v4 x1 x2 x3 x4 w) (hb : Below w.heap.size w w') : Hold4 g sn se sd alg N E D K v1 v2 v3 v4 x1 x2 x3 x4 w' :=
  ⟨h.h.below hb, h.b3.below hb, h.b4.below hb⟩
theorem Hold4.drew {g : Nat} {sn se sd : Value} {alg : Int} {N E D K : Nat} {v1 v2 v3 v4 : Value} {x1 x2 x3 x4 : List Nat} {w : World} (h : Hold4 g sn se sd alg N E D K v1 v2 v3 v4 x1 x2 x3 x4 w) : Hold4 g sn se sd alg N E D K v1 v2 v3 v4 x1 x2 x3 x4 w.drew := h.below (below_drew w)
end Go.Proofs.Ytbefchlgonlfiaa.R10
