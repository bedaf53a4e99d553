/-
  More of my own small kit, over whatever program: rows and arrays of numbers that came in, compared, and turned into a string; two operations that may come in either order. Conditions: elements of one cell.
-/
import Derived.Test.YtdpahahfcdldcaaDoorKit7
namespace Go.Proofs.YtdpahahfcdldcaaDoor
open Go.RowKit Go.ChangeShapes Go.WideShapes
set_option linter.unusedVariables false

theorem C_ofInts {q : IntKind} {zs : List Int} (h : ∀ z ∈ zs, 0 ≤ z) : zs.map (Value.int q) = C q (zs.map Int.toNat) := by
  simp only [C, List.map_map]
  refine List.map_congr_left fun z hz => ?_
  simp only [Function.comp_apply]
  rw [Int.toNat_of_nonneg (h z hz)]
/-- Bytes that came in. -/
theorem IsRow.bytes {w : World} {a : Option Addr} {len cap : Nat} {zs : List Int} (h : IsRow .u8 w a len cap zs) : ∃ xs : List Nat, SlV w (.slice a len cap) (C .u8 xs) ∧ xs.length = len ∧ Lo 256 xs := by
  obtain ⟨hs, hl, hwf⟩ := h.sl
  have hb := byt_of_wf hwf
  refine ⟨(zs.take len).map Int.toNat, ?_, by simpa using hl, ?_⟩
  · rw [← C_ofInts (fun z hz => (hb z hz).1)]; exact hs
  · intro x hx
    obtain ⟨z, hz, rfl⟩ := List.mem_map.1 hx
    have := hb z hz; omega
/-- An array of bytes that came in. -/
theorem arr_bytes {zs : List Int} (h : ∀ z ∈ zs, (Lit.int .u8 z).wf = true) : ∃ xs : List Nat, zs.map (Value.int .u8) = C .u8 xs ∧ xs.length = zs.length ∧ Lo 256 xs := by
  have hb := byt_of_wf h
  refine ⟨zs.map Int.toNat, C_ofInts (fun z hz => (hb z hz).1), by simp, ?_⟩
  intro x hx
  obtain ⟨z, hz, rfl⟩ := List.mem_map.1 hx
  have := hb z hz; omega
theorem u32_of_wf {z : Int} (h : (Lit.int .u32 z).wf = true) : 0 ≤ z ∧ z < 4294967296 := by
  simp [Lit.wf, IntKind.min, IntKind.max, IntKind.signed, IntKind.bits] at h
  omega
theorem u64_of_wf {z : Int} (h : (Lit.int .u64 z).wf = true) : 0 ≤ z ∧ z < 18446744073709551616 := by
  simp [Lit.wf, IntKind.min, IntKind.max, IntKind.signed, IntKind.bits] at h
  omega
theorem arr_words {zs : List Int} (h : ∀ z ∈ zs, (Lit.int .u32 z).wf = true) : ∃ xs : List Nat, zs.map (Value.int .u32) = C .u32 xs ∧ xs.length = zs.length ∧ Lo 4294967296 xs := by
  refine ⟨zs.map Int.toNat, C_ofInts (fun z hz => (u32_of_wf (h z hz)).1), by simp, ?_⟩
  intro x hx
  obtain ⟨z, hz, rfl⟩ := List.mem_map.1 hx
  have := u32_of_wf (h z hz); omega
theorem C_asInts (q : IntKind) (xs : List Nat) : C q xs = (xs.map Int.ofNat).map (Value.int q) := by simp [C]
/-- Two arrays of numbers compared. -/
theorem run_equal_C {P : Program} (w : World) (d : Nat) {t e : TypeId} {n : Nat} {q : IntKind} (hu : P.underlying t = some (.array n e)) (hp : P.plainKey e = true) (he : P.underlying e = some (.int q)) (hi : ∃ i, P.info? e = some i) (hc : P.cellsOf e = 1)
    (xs ys : List Nat) (hx : xs.length = n) (hy : ys.length = n) : (Op.equalIn (d + 2) t (.agg (C q xs).toArray) (.agg (C q ys).toArray)).run P w = .ok (decide (xs = ys)) w := by
  obtain ⟨i, hi⟩ := hi
  rw [C_asInts, C_asInts, run_equal_ints w d hu hp he hi hc _ _ (by simpa using hx) (by simpa using hy)]
  congr 1
  rw [decide_eq_decide]
  exact ⟨fun h => List.map_inj_right (fun a b h => Int.ofNat.inj h) |>.1 h, fun h => by rw [h]⟩
/-- string(b). -/
theorem run_string_C {P : Program} (w : World) (src dst e : TypeId) (hs : P.underlying src = some (.slice e)) (he : P.underlying e = some (.int .u8)) (hd : P.underlying dst = some .string) (v : Value) (xs : List Nat) (h : SlV w v (C .u8 xs)) :
    (convert src dst v).run P w = .ok (.string (strOfNums (xs.map Int.ofNat))) w :=
  run_string w src dst e hs he hd v _ (by rw [U, ← C_asInts]; exact h)
/-- An array built of what is written out. -/
theorem wpList_build_C {P : Program} {w : World} {ops : Array Oper} {rest : List Oper} {o : Oper} {a : Act} {Q : Exit → Act → World → Prop} (hg : o.guard = none) (t : TypeId) (parts : Array (Nat × Operand)) (ho : o.op = .build t parts) (us : List Value)
    (hz : P.built t (parts.map fun (i, x) => (i, a.eval x)).toList = some us.toArray) (h : wpList P ops Q rest (a.put o.dst (.agg us.toArray)) w) : wpList P ops Q (o :: rest) a w := by
  refine wpList_build hg t parts ho (by rw [hz]; rfl) ?_
  rw [hz]; exact h
/-- An array's variable made: in a region that draws its order. -/
theorem wp_alloc_R {P : Program} {w : World} {o : Oper} {a : Act} {K : Act → World → Prop} {Q : Exit → Act → World → Prop} (ty : TypeId) (ho : o.op = .alloc ty) (us : List Value) (hz : ∀ w : World, (zeroValue ty).run P w = .ok (.agg us.toArray) w)
    (h : K (a.put o.dst (.pointer (some ⟨w.heap.size, 0, none⟩))) (w.alloc (.cells us.toArray ty))) : o.wp P a w K Q := by
  unfold Oper.wp execOp
  simp [ho, hz, go_sem]
  exact h
/-- Two that may come up. -/
theorem ready_twoL {P : Program} {md : Region.Mode} {L : List Oper} {Q : Exit → Act → World → Prop} {S : World → Prop} {fuel : Nat} {listed : Array Bool} {a : Act} {w : World} {i j : Nat} {o p : Oper} (hr : Region.ready md L.toArray listed = [i, j]) (ho : L[i]? = some o) (hp : L[j]? = some p) (hw : Region.wanted o (yielded L.toArray a.tmps) = true) (hv : Region.wanted p (yielded L.toArray a.tmps) = true)
    (h : ∀ K' : Act → World → Prop, Shut (∀ a w, S w → (S w → wpAnyH P md L.toArray Q S fuel (listed.setIfInBounds i true) a w) → K' a w) → Oper.wp P o a w K' Q)
    (k : ∀ K' : Act → World → Prop, Shut (∀ a w, S w → (S w → wpAnyH P md L.toArray Q S fuel (listed.setIfInBounds j true) a w) → K' a w) → Oper.wp P p a w K' Q) : wpAnyH P md L.toArray Q S (fuel + 1) listed a w :=
  wpAnyH_ready hr (by simp) (AllReadyH.cons (getL ho) (fun K hK => by rw [if_pos hw]; exact h K hK) (AllReadyH.cons (getL hp) (fun K hK => by rw [if_pos hv]; exact k K hK) AllReadyH.nil))
end Go.Proofs.YtdpahahfcdldcaaDoor
