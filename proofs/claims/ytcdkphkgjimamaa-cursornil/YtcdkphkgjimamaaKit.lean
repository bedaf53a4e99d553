/-
  My own small kit for walks over slices: 'SlV' (a slice value that reads as a list of values), 'ownsRow' behind make, copy and append, the conversion of bytes to a string. Over whatever program. Conditions: elements of one cell.
-/
import Derived.WalkKit
import Derived.WalkSpells
import Derived.WalkLawsBesides
import Derived.BigQuiet
import Derived.Deep.QuietTactic
import Derived.Handy
import Derived.Laws.CopyOwn
import Derived.Laws.AppendOwnNone
namespace Go.Proofs.Ytcdkphkgjimamaa
open Go.RowKit
set_option linter.unusedVariables false

theorem hide {p : Prop} (h : p) : Hid p := h
theorem unhide {p : Prop} (h : Hid p) : p := h

/-- The value v is a slice that reads as xs (elements of one cell) in the world w. -/
def SlV (w : World) (v : Value) (xs : List Value) : Prop :=
  ∃ a cap, v = .slice a xs.length cap ∧ xs.length ≤ cap ∧ cap ≤ maxLen ∧ (a = none → cap = 0) ∧
    (0 < xs.length → ∃ b off, a = some ⟨b, off, none⟩ ∧ ∀ i u, xs[i]? = some u → w.cell? ⟨b, off + i, none⟩ = some u)

/-- Numbers that are bytes. -/
def Byt (xs : List Int) : Prop := ∀ n ∈ xs, 0 ≤ n ∧ n ≤ 255
/-- Bytes as cells. -/
def U (xs : List Int) : List Value := xs.map (Value.int .u8)
theorem U_length (xs : List Int) : (U xs).length = xs.length := by simp [U]
theorem U_append (xs ys : List Int) : U (xs ++ ys) = U xs ++ U ys := by simp [U]
theorem U_take (xs : List Int) (n : Nat) : U (xs.take n) = (U xs).take n := by simp [U]
theorem U_drop (xs : List Int) (n : Nat) : U (xs.drop n) = (U xs).drop n := by simp [U]
theorem U_inj {xs ys : List Int} (h : U xs = U ys) : xs = ys := by
  refine List.map_inj_right ?_ |>.1 h
  intro a b hab; simpa using hab
theorem U_get (xs : List Int) (i : Nat) (h : i < xs.length) : (U xs)[i]? = some (.int .u8 xs[i]) := by simp [U, h]
theorem U_one (xs : List Int) : ∀ u ∈ U xs, u.oneCell' = true := ints_oneCell _ _

theorem Byt.nil : Byt [] := by intro n h; cases h
theorem Byt.append {xs ys : List Int} (h : Byt xs) (k : Byt ys) : Byt (xs ++ ys) := by
  intro n hn; rcases List.mem_append.1 hn with h' | h'
  · exact h n h'
  · exact k n h'
theorem Byt.take {xs : List Int} (h : Byt xs) (n : Nat) : Byt (xs.take n) := fun m hm => h m (List.mem_of_mem_take hm)
theorem Byt.drop {xs : List Int} (h : Byt xs) (n : Nat) : Byt (xs.drop n) := fun m hm => h m (List.mem_of_mem_drop hm)
theorem Byt.get {xs : List Int} (h : Byt xs) (i : Nat) (hi : i < xs.length) : 0 ≤ xs[i] ∧ xs[i] ≤ 255 := h _ (List.getElem_mem hi)

section
variable {w w' : World} {v : Value} {xs : List Value}

theorem SlV.nil (w : World) : SlV w (.slice none 0 0) [] := ⟨none, 0, rfl, Nat.le_refl _, Nat.zero_le _, fun _ => rfl, fun h => absurd h (by simp)⟩

/-- What is read stays so where its block stays. -/
theorem SlV.keep (h : SlV w v xs) (hb : ∀ b, v.ownBlock = some b → b < w.heap.size → w'.heap[b]? = w.heap[b]?) : SlV w' v xs := by
  obtain ⟨a, cap, rfl, h1, h2, h3, h4⟩ := h
  refine ⟨a, cap, rfl, h1, h2, h3, fun hp => ?_⟩
  obtain ⟨b, off, rfl, hc⟩ := h4 hp
  refine ⟨b, off, rfl, fun i u hu => ?_⟩
  have hcu := hc i u hu
  have hlt : b < w.heap.size := World.block_lt_of_cell? w _ hcu
  rw [World.cell?_of_block (w := w) (hb b rfl hlt)]
  exact hcu
theorem SlV.below (h : SlV w v xs) (hb : Below w.heap.size w w') : SlV w' v xs := h.keep fun b _ hlt => hb.block b hlt
theorem SlV.belowOf {B : Nat} (h : SlV w v xs) (hb : Below B w w') (hv : ∀ b, v.ownBlock = some b → b < B) : SlV w' v xs := h.keep fun b e _ => hb.block b (hv b e)
theorem SlV.grown {row : Option Nat} (h : SlV w v xs) (hg : w.grownBy w' row) (hne : ∀ b, v.ownBlock = some b → some b ≠ row) : SlV w' v xs := h.keep fun b e hlt => hg.block b hlt (hne b e)

/-- What the call made is read as what it holds. -/
theorem SlV.ofOwn {base : Nat} {e : TypeId} {n : Nat} (h : w.ownsRow base e 1 v n xs) : SlV w v xs := by
  have hl := h.1
  rw [Nat.mul_one] at hl
  rcases h.2 with ⟨rfl, rfl⟩ | ⟨g, cap, cur, rfl, _, hg, hnc, hcm, hcs, htake⟩
  · have : xs = [] := List.eq_nil_of_length_eq_zero hl
    subst this; exact SlV.nil w
  · subst hl
    refine ⟨_, cap, rfl, hnc, hcm, fun h => by simp at h, fun _ => ⟨g, 0, rfl, fun i u hu => ?_⟩⟩
    have := h.cells (g := g) rfl i u hu
    rw [Addr.add_lit] at this
    exact this

theorem own_block {base : Nat} {e : TypeId} {size n : Nat} (h : w.ownsRow base e size v n xs) : ∀ b, v.ownBlock = some b → base ≤ b ∧ b < w.heap.size := h.lt

/-- The slice's shape: for the walk. -/
theorem SlV.shape (h : SlV w v xs) : ∃ a cap, v = .slice a xs.length cap ∧ xs.length ≤ cap ∧ cap ≤ maxLen := by
  obtain ⟨a, cap, rfl, h1, h2, _, _⟩ := h; exact ⟨a, cap, rfl, h1, h2⟩
theorem SlV.len (h : SlV w v xs) : xs.length ≤ maxLen := by obtain ⟨a, cap, _, h1, h2, _⟩ := h; omega
end

section
variable {P : Program} (w : World)

/-- string(b). -/
theorem run_string (src dst e : TypeId) (hs : P.underlying src = some (.slice e)) (he : P.underlying e = some (.int .u8)) (hd : P.underlying dst = some .string) (v : Value) (xs : List Int) (h : SlV w v (U xs)) :
    (convert src dst v).run P w = .ok (.string (strOfNums xs)) w := by
  obtain ⟨a, cap, rfl, h1, h2, h3, h4⟩ := h
  rw [U_length] at *
  by_cases hp : 0 < xs.length
  · obtain ⟨b, off, rfl, hc⟩ := h4 hp
    refine run_convert_bytes_arg w src e hs he b off xs.length cap xs rfl (fun i hi => ?_) dst hd
    rw [hc i _ (U_get xs i hi)]
    simp [List.getD, List.getElem?_eq_getElem hi]
  · have : xs = [] := List.eq_nil_of_length_eq_zero (by omega)
    subst this
    cases a with
    | none => rw [run_convert_bytes_nil w src e hs he _ _ dst hd]; rfl
    | some ad =>
      rw [run_convert_bytes_string w src dst e _ _ cap hs he hd]
      exact run_bytesToString w ad 0 cap [] (by simp [loadCells, loadCellsFrom])
end

theorem strOfNums_inj {xs ys : List Int} (hx : Byt xs) (hy : Byt ys) (h : strOfNums xs = strOfNums ys) : xs = ys := by
  have h2 : (strOfNums xs).data.toList = (strOfNums ys).data.toList := by rw [h]
  rw [strOfNums_data, strOfNums_data] at h2
  have hl : xs.length = ys.length := by simpa using congrArg List.length h2
  apply List.ext_getElem hl
  intro i hi hj
  have h3 : (xs.map fun n => UInt8.ofNat n.toNat)[i]? = (ys.map fun n => UInt8.ofNat n.toNat)[i]? := by rw [h2]
  simp [hi, hj] at h3
  have a1 := hx.get i hi
  have a2 := hy.get i hj
  have h4 := congrArg UInt8.toNat h3
  simp at h4
  omega

/-- What 'make([]T, n)' leaves, elements of one cell. -/
theorem own_made {w : World} {base : Nat} {e : TypeId} {z : Value} {v : Value} {n : Nat} (h : w.ownsRow base e 1 v n (madeCells #[z] n).toList) : w.ownsRow base e 1 v n (List.replicate n z) := by
  rwa [toList_madeCells_one] at h

/-- copy(dst, src), dst the call's own and whole, src whatever is read, not longer. -/
theorem wpList_copy_full {P : Program} {w : World} {ops : Array Oper} {rest : List Oper} {o : Oper} {a : Act} {Q : Exit → Act → World → Prop} (hgd : o.guard = none) (d s : Operand) (t : TypeId)
    (ho : o.op = .call { callee := .builtin .copy, args := #[d, s], argTypes := #[t, t] }) (e : TypeId) (hu : P.underlying t = some (.slice e)) (hsz : (P.info? e).map (·.size) = some 1)
    (base n cap m : Nat) (g : Nat) (xs ys : List Value) (sa : Option Addr) (sc : Nat) (hd : a.eval d = .slice (some ⟨g, 0, none⟩) n cap) (hs : a.eval s = .slice sa m sc) (hm : m = ys.length)
    (hown : w.ownsRow base e 1 (.slice (some ⟨g, 0, none⟩) n cap) n xs) (hsl : SlV w (.slice sa m sc) ys) (hle : ys.length ≤ n) (h1 : ∀ u ∈ ys, u.oneCell' = true)
    (h : ∀ w', w'.ownsRow base e 1 (.slice (some ⟨g, 0, none⟩) n cap) n (ys ++ xs.drop ys.length) → w.grownBy w' (some g) → w'.heap.size = w.heap.size → wpList P ops Q rest (a.put o.dst (goInt ys.length)) w') :
    wpList P ops Q (o :: rest) a w := by
  subst hm
  obtain ⟨hlx, hrow⟩ := hown
  rcases hrow with ⟨h', _⟩ | ⟨g', cap', cur, h', hbg, hg, hnc, hcm, hcs, htake⟩
  · simp at h'
  simp only [Value.slice.injEq, Option.some.injEq, Addr.mk.injEq, and_true, true_and] at h'
  obtain ⟨rfl, rfl⟩ := h'
  rw [Nat.mul_one] at hcs htake hlx
  have hfin : ∀ ysl : List Value, ysl.length = ys.length → ysl = ys → (w.setRow g (cur.toList.take 0 ++ (ysl ++ cur.toList.drop (0 + ysl.length))).toArray).ownsRow base e 1 (.slice (some ⟨g, 0, none⟩) n cap) n (ys ++ xs.drop ys.length) := by
    intro ysl _ he
    subst he
    refine ⟨by simp [hlx]; omega, .inr ⟨g, cap, _, rfl, hbg, setRow_heap w g cur _ e _ hg, hnc, hcm, ?_, ?_⟩⟩
    · simp [hcs]; omega
    · simp only [List.take_zero, List.nil_append, Nat.zero_add, Nat.mul_one]
      rw [List.take_append, List.take_of_length_le (by omega), ← List.drop_take, htake]
  by_cases h0 : ys.length = 0
  · obtain rfl : ys = [] := List.eq_nil_of_length_eq_zero h0
    refine wpList_copy_nothing hgd d s t t ho e hu hsz _ _ _ _ _ _ hd hs (Nat.zero_min _) ?_
    exact h w ⟨by simp [hlx], .inr ⟨g, cap, cur, rfl, hbg, hg, hnc, hcm, by simpa using hcs, by simpa using htake⟩⟩ ⟨rfl, rfl, rfl, Nat.le_refl _, fun _ _ _ => rfl⟩ rfl
  · obtain ⟨a', c', he, _, _, _, hc⟩ := hsl
    obtain ⟨b, off, rfl, hcell⟩ := hc (by omega)
    simp only [Value.slice.injEq] at he
    obtain ⟨rfl, -, -⟩ := he
    refine wpList_copy_own hgd d s t t ho e hu hsz g 0 n cap ⟨b, off, none⟩ ys.length sc hd hs cur e hg ys (by rw [show Nat.min ys.length n = min ys.length n from rfl]; omega) (fun j u hu => ?_) (by omega) h1 ?_
    · rw [Addr.add_lit]; exact hcell j u hu
    · exact h _ (hfin ys rfl rfl) ⟨rfl, rfl, rfl, by simp [World.setRow], fun k _ hk => setRow_other w g k _ (fun e => hk (by rw [e]))⟩ (by simp [World.setRow])

end Go.Proofs.Ytcdkphkgjimamaa
