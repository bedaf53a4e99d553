/-
  A number of 256 bits as a natural one, over this seat's translation. Conditions: each as it says.
-/
import Derived.Test.YtgakpgcjninbgaaDoorLawN
import Derived.Test.YtgakpgcjninbgaaDoorFldZ
import Derived.Test.YtgakpgcjninbgaaDoorFldU
namespace Go.Proofs.YtgakpgcjninbgaaDoor.F
open Go.RowKit
set_option linter.unusedVariables false
set_option maxRecDepth 10000

/-- append(s, x...), s the call's own, x whatever is read: in a region that draws its order. -/
theorem wp_append_sl {P : Program} {w : World} {o : Oper} {a : Act} {K : Act → World → Prop} {Q : Exit → Act → World → Prop} (s x : Operand) (t : TypeId)
    (ho : o.op = .call { callee := .builtin .append, args := #[s, x], argTypes := #[t, t] })
    (base : Nat) (e : TypeId) (z : Value) (bytes : Nat) (ht : P.underlying t = some (.slice e)) (hinfo : (P.info? e).map (fun i => (i.zero, i.size, i.bytes)) = some (some z, 1, bytes)) (hzs : z.cells.size = 1)
    (v : Value) (n : Nat) (xs : List Value) (hs : a.eval s = v) (hown : w.ownsRow base e 1 v n xs) (sv : Value) (ys : List Value) (hx : a.eval x = sv) (hsl : SlV w sv ys) (h1 : ∀ u ∈ ys, u.oneCell' = true)
    (h63 : n + ys.length ≤ maxLen) (hbytes : (n + ys.length) * bytes ≤ 140737488355328) (hbase : base ≤ w.heap.size)
    (h : ∀ v' w', w'.ownsRow base e 1 v' (n + ys.length) (xs ++ ys) → w.grownBy w' v.ownBlock → K (a.put o.dst v') w') : o.wp P a w K Q := by
  obtain ⟨i0, hi, hz0, hz1, hz2⟩ := info_parts hinfo
  obtain ⟨a', c', rfl, hle, hcm, hnone, hc⟩ := hsl
  by_cases h0 : a' = none
  · subst h0
    obtain rfl := hnone rfl
    obtain rfl : ys = [] := List.eq_nil_of_length_eq_zero (by omega)
    have hrun := run_append_owned_none (P := P) (w := w) base t o.type e i0 1 ht hi v n xs hown
    unfold Oper.wp
    simp at hx
    simp [execOp, ho, resolve, invoke, builtin, hs, hx, hrun, Result.andThen]
    exact h v w (by simpa using hown) ⟨rfl, rfl, rfl, Nat.le_refl _, fun _ _ _ => rfl⟩
  · obtain ⟨ad, rfl⟩ := Option.ne_none_iff_exists'.1 h0
    have hnews : ∀ j y, ys[j]? = some y → w.cell? (ad.add j) = some y := by
      intro j u hu
      have hp : 0 < ys.length := by
        have := (List.getElem?_eq_some_iff.1 hu).1
        omega
      obtain ⟨b, off, he, hcell⟩ := hc hp
      simp only [Option.some.injEq] at he
      subst he
      rw [Addr.add_lit]; exact hcell j u hu
    obtain ⟨v', w', hrun, ho', hg', _⟩ := run_append_own (P := P) (w := w) base t o.type e i0 z 1 bytes ht hi hz0 hz1 hz2 hzs (by decide) v n xs hown ad ys.length c' ys (by simp) hnews h1 h63 hbytes hbase
    unfold Oper.wp
    simp [execOp, ho, resolve, invoke, builtin, hs, hx, hrun, Result.andThen]
    exact h v' w' ho' hg'
theorem inf32 : (Tryd.prog.info? 64).map (fun i => (i.zero, i.size, i.bytes)) = some (some (.int .u32 0), 1, 4) := by kernel_rfl
/-- The first k words' halves. -/
def hv (A k : Nat) : List Nat := dig 4294967296 (2 * k) A
theorem hv_step {A k : Nat} (hA : A < 115792089237316195423570985008687907853269984665640564039457584007913129639936) (hk : k < 4) : hv A (k + 1) = hv A k ++ [(wds A).getD k 0 % 4294967296, (wds A).getD k 0 / 4294967296] := by
  have e1 := half_of A (2 * k)
  have e2 := half_of A (2 * k + 1)
  rw [show 2 * k / 2 = k by omega, show 2 * k % 2 = 0 by omega, Nat.mul_zero, Nat.pow_zero, Nat.div_one, ← wds_getD hA] at e1
  rw [show (2 * k + 1) / 2 = k by omega, show (2 * k + 1) % 2 = 1 by omega, Nat.mul_one, show (2 : Nat) ^ 32 = 4294967296 from rfl, ← wds_getD hA] at e2
  have hl := (wds_lo A).getD (by decide) k
  have e3 : (wds A).getD k 0 / 4294967296 % 4294967296 = (wds A).getD k 0 / 4294967296 := Nat.mod_eq_of_lt (by omega)
  rw [e3] at e2
  unfold hv dig
  rw [show 2 * (k + 1) = 2 * k + 1 + 1 by omega, List.range_succ, List.range_succ]
  simp only [List.map_append, List.map_cons, List.map_nil, List.append_assoc, List.cons_append, List.nil_append]
  rw [← e1, ← e2]
theorem hv_length (A k : Nat) : (hv A k).length = 2 * k := dig_length _ _ _

set_option maxHeartbeats 1000000 in
theorem natural_any (A : Nat) (hA : A < 115792089237316195423570985008687907853269984665640564039457584007913129639936) (w : World) : Calls Tryd.prog 35 #[.agg (C .u64 (wds A)).toArray] w fun e w' => ∃ v', e = .returned v' ∧ Num w' v' A 8 ∧ Below w.heap.size w w' := by
  have r1 := Row.new w 24 (C .u64 (wds A))
  have hL := (Below.more (Below.refl w.heap.size w) (Nat.le_refl _) (.cells (C .u64 (wds A)).toArray 24)).1
  have hs1 := alloc_size w (.cells (C .u64 (wds A)).toArray 24)
  generalize h2 : w.alloc (.cells (C .u64 (wds A)).toArray 24) = w2 at *
  have ho := own_empty_at w2 (w.heap.size + 1) (w.heap.size + 1) 64 hs1.symm (by omega)
  have r2 := r1.alloc (.cells #[] 64)
  have hL2 := hL.alloc hL.size (.cells #[] 64)
  have hs2 := alloc_size w2 (.cells #[] 64)
  have hx := wds_lo A
  go_enter Tryd.func35, Tryd.ntmps35
  go_wp2
  go_loopw [3, 4] (fun v1 i wr => ∃ (k : Nat) (v : Value), k ≤ 4 ∧ i = .int .i64 k ∧ v = v1 ∧ wr.ownsRow (w.heap.size + 1) 64 1 v (2 * k) (C .u32 (hv A k)) ∧ Row wr w.heap.size 24 (C .u64 (wds A)) ∧ Below w.heap.size w wr ∧ w.heap.size + 1 ≤ wr.heap.size) (fun _ i _ => 4 - (intOf i).toNat)
  case atStart => exact ⟨0, _, Nat.zero_le _, rfl, rfl, ho, r2, hL2, by omega⟩
  case round =>
    clear ho r1 r2 hL hL2
    obtain ⟨k, v, hk, rfl, rfl, ho, r1, hL, hsz⟩ := hrel
    by_cases hlt : k < 4
    · have c1 := r1.cell k
      rw [C_get .u64 (by rw [wds_length]; omega)] at c1
      have bx := hx.getD (by decide) k
      have HN := Away.mk (hv_step hA hlt)
      generalize (wds A).getD k 0 = x at *
      obtain ⟨y, hy⟩ : ∃ y, x % 4294967296 = y := ⟨_, rfl⟩
      obtain ⟨z, hz⟩ : ∃ z, x / 4294967296 = z := ⟨_, rfl⟩
      rw [hy, hz] at HN
      have ey : IntKind.u32.wrap (x : Int) = (y : Int) := by rw [IntKind.wrap_u32]; omega
      have ey' : (x : Int) % 4294967296 = (y : Int) := by omega
      have ez : (x : Int) / 4294967296 = (z : Int) := by omega
      have ez2 : IntKind.u32.wrap (z : Int) = (z : Int) := by rw [IntKind.wrap_u32]; omega
      have ez3 : (z : Int) % 4294967296 = (z : Int) := by omega
      have bk : (k : Int) < 4 := by omega
      have cd : wr.drew.cell? ⟨w.heap.size, k, none⟩ = some (.int .u64 (x : Int)) := c1
      have od : wr.drew.ownsRow (w.heap.size + 1) 64 1 v (2 * k) (C .u32 (hv A k)) := ho
      replace r1 := r1.drew
      replace hL := below_drawn hL
      clear hy hz bx c1 ho
      go_wp2
      refine wp_region_noPanic ?_
      refine wp_region_held_drew (S := fun w' => w'.cell? ⟨w.heap.size, k, none⟩ = some (.int .u64 (x : Int))) (by kernel_rfl) (cd) (fun hHeld => ?_)
      refine wpAnyH_takeL (i := 0) (v := ?v0n) rfl (by kernel_rfl) (by kernel_rfl) (by kernel_rfl) (fun _ _ _ h => h) (by rfl) ?h0n (by assumption) ?_
      case h0n => intro w hSw; go_simp <;> with_reducible rfl
      simp only [Act.put, List.setIfInBounds_toArray, List.set_cons_zero, List.set_cons_succ]
      refine wpAnyH_takeL (i := 1) (v := ?v1n) rfl (by kernel_rfl) (by kernel_rfl) (by kernel_rfl) (fun _ _ _ h => h) (by rfl) ?h1n (by assumption) ?_
      case h1n => intro w hSw; go_simp <;> with_reducible rfl
      simp only [Act.put, List.setIfInBounds_toArray, List.set_cons_zero, List.set_cons_succ]
      refine wpAnyH_takeL (i := 2) (v := ?v2n) rfl (by kernel_rfl) (by kernel_rfl) (by kernel_rfl) (fun _ _ _ h => h) (by rfl) ?h2n (by assumption) ?_
      case h2n => intro w hSw; go_simp <;> with_reducible rfl
      simp only [Act.put, List.setIfInBounds_toArray, List.set_cons_zero, List.set_cons_succ]
      refine wpAnyH_takeL (i := 3) (v := ?v3n) rfl (by kernel_rfl) (by kernel_rfl) (by kernel_rfl) (fun _ _ _ h => h) (by rfl) ?h3n (by assumption) ?_
      case h3n => intro w hSw; go_simp <;> with_reducible rfl
      simp only [Act.put, List.setIfInBounds_toArray, List.set_cons_zero, List.set_cons_succ]
      refine wpAnyH_takeL (i := 4) (v := ?v4n) rfl (by kernel_rfl) (by kernel_rfl) (by kernel_rfl) (fun _ _ _ h => h) (by rfl) ?h4n (by assumption) ?_
      case h4n => intro w hSw; go_simp <;> with_reducible rfl
      simp only [Act.put, List.setIfInBounds_toArray, List.set_cons_zero, List.set_cons_succ]
      refine wpAnyH_takeL (i := 5) (v := ?v5n) rfl (by kernel_rfl) (by kernel_rfl) (by kernel_rfl) (fun _ _ _ h => h) (by rfl) ?h5n (by assumption) ?_
      case h5n => intro w hSw; go_simp <;> with_reducible rfl
      simp only [Act.put, List.setIfInBounds_toArray, List.set_cons_zero, List.set_cons_succ]
      refine wpAnyH_takeL (i := 6) (v := ?v6n) rfl (by kernel_rfl) (by kernel_rfl) (by kernel_rfl) (fun _ _ _ h => h) (by rfl) ?h6n (by assumption) ?_
      case h6n => intro w hSw; go_simp <;> with_reducible rfl
      simp only [Act.put, List.setIfInBounds_toArray, List.set_cons_zero, List.set_cons_succ]
      refine wpAnyH_takeL (i := 7) (v := ?v7n) rfl (by kernel_rfl) (by kernel_rfl) (by kernel_rfl) (fun _ _ _ h => h) (by rfl) ?h7n (by assumption) ?_
      case h7n => intro w hSw; go_simp <;> with_reducible rfl
      simp only [Act.put, List.setIfInBounds_toArray, List.set_cons_zero, List.set_cons_succ]
      refine wpAnyH_takeL (i := 8) (v := ?v8n) rfl (by kernel_rfl) (by kernel_rfl) (by kernel_rfl) (fun _ _ _ h => h) (by rfl) ?h8n (by assumption) ?_
      case h8n => intro w hSw; go_simp <;> with_reducible rfl
      simp only [Act.put, List.setIfInBounds_toArray, List.set_cons_zero, List.set_cons_succ]
      refine wpAnyH_takeL (i := 9) (v := ?v9n) rfl (by kernel_rfl) (by kernel_rfl) (by kernel_rfl) (fun _ _ _ h => h) (by rfl) ?h9n (by assumption) ?_
      case h9n => intro w hSw; go_simp <;> with_reducible rfl
      simp only [Act.put, List.setIfInBounds_toArray, List.set_cons_zero, List.set_cons_succ]
      refine allReadyH_oneL (i := 10) (by kernel_rfl) rfl (by rfl) (fun K hK => ?_)
      go_simp
      refine hK.out _ _ (cell_alloc cd _) (fun hHeld => ?_)
      clear hK K
      refine allReadyH_oneL (i := 11) (by kernel_rfl) rfl (by rfl) (fun K hK => ?_)
      have hsl := (Row.new wr.drew 64 (C .u32 [y, z])).slAll (by simp [C]; unfold maxLen; omega)
      refine wp_append_sl _ _ 37 rfl (w.heap.size + 1) 64 (.int .u32 0) 4 Tryd.underlying37 inf32 rfl v (2 * k) _ rfl (own_below od ((Below.refl wr.drew.heap.size wr.drew).alloc (Nat.le_refl _) _)) _ (C .u32 [y, z]) rfl hsl (C_one _ _) (by simp [C]; unfold maxLen; omega) (by simp [C]; omega) (by show _ ≤ (wr.alloc _).heap.size; rw [alloc_size]; omega) ?_
      intro v2 w3 o2 hg3
      have hne : ∀ b, v.ownBlock = some b → w.heap.size + 1 ≤ b := fun b e => (od.lt b e).1
      have r3 := (r1.alloc (.cells (C .u32 [y, z]).toArray 64)).grown hg3 (fun e => by have := hne _ e.symm; omega)
      have hL3 := (hL.alloc hL.size (.cells (C .u32 [y, z]).toArray 64)).grown hg3 (by have := hL.size; rw [alloc_size]; omega) (fun b e => by have := hne b e; omega)
      have hs3 : (wr.alloc (.cells (C .u32 [y, z]).toArray 64)).heap.size ≤ w3.heap.size := hg3.size
      rw [alloc_size] at hs3
      have hs4 : wr.drew.heap.size = wr.heap.size := rfl
      have c3 : w3.cell? ⟨w.heap.size, k, none⟩ = some (.int .u64 (x : Int)) := (r3.cell k).trans ((r1.cell k).symm.trans cd)
      refine hK.out _ _ (c3) (fun hHeld => ?_)
      clear hK K
      refine wpAnyH_takeL (i := 12) (v := ?v12n) rfl (by kernel_rfl) (by kernel_rfl) (by kernel_rfl) (fun _ _ _ h => h) (by rfl) ?h12n (by assumption) ?_
      case h12n => intro w hSw; go_simp <;> with_reducible rfl
      simp only [Act.put, List.setIfInBounds_toArray, List.set_cons_zero, List.set_cons_succ]
      refine wpAnyH_done (by kernel_rfl) ?_ _
      refine NoPanic.normal ?_
      go_wp2
      go_roundw
      case rel => exact ⟨k + 1, _, by omega, by go_num, rfl, by rw [HN.out]; simpa [C, Nat.mul_add] using o2, r3, hL3, by omega⟩
      case measure => simp [intOf]; omega
    · have HK : Away (k = 4) := ⟨by omega⟩
      have dk : decide ((k : Int) < 4) = false := decide_eq_false (by omega)
      rw [HK.out] at ho
      clear hlt hk
      go_wp2
      go_ret
      exact ⟨_, rfl, ⟨dig 4294967296 8 A, SlV.ofOwn ho, dig_lo (by decide) _ _, dig_val (by decide) (by rw [B32_pow]; exact hA), by rw [dig_length]; exact Nat.le_refl _⟩, hL⟩
end Go.Proofs.YtgakpgcjninbgaaDoor.F
