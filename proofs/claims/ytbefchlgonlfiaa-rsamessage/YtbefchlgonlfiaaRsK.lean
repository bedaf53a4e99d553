/-
  Prefixes and messages: sizes, the prefix, the message, the program and the document; the mathematics ahead.
-/
import Derived.Test.YtbefchlgonlfiaaNatM
import Derived.Test.YtbefchlgonlfiaaKit6
import Derived.Test.YtbefchlgonlfiaaNatC
import Derived.Test.YtbefchlgonlfiaaNatF
namespace Go.Proofs.Ytbefchlgonlfiaa.R10
open Go.RowKit
set_option linter.unusedVariables false
set_option maxRecDepth 10000

/-- How many bytes a hash has. -/
def siz (a : Int) : Nat := if a = 2 then 20 else if a = 8 then 32 else if a = 9 then 48 else if a = 10 then 64 else if a = 11 then 28 else 0
/-- Known. -/
abbrev Kn (a : Int) : Prop := a = 2 ∨ a = 8 ∨ a = 9 ∨ a = 10 ∨ a = 11
theorem not_kn {a : Int} (h : ¬ Kn a) : a ≠ 2 ∧ a ≠ 8 ∧ a ≠ 9 ∧ a ≠ 10 ∧ a ≠ 11 := by unfold Kn at h; omega
theorem kn_cases (a : Int) : a = 2 ∨ a = 8 ∨ a = 9 ∨ a = 10 ∨ a = 11 ∨ ¬ Kn a := by unfold Kn; omega
theorem siz_no {a : Int} (h : ¬ Kn a) : siz a = 0 := by
  obtain ⟨h1, h2, h3, h4, h5⟩ := not_kn h
  simp [siz, h1, h2, h3, h4, h5]
def p2 (x n : Nat) : List Nat := [48, n + 17, 48, 13, 6, 9, 96, 134, 72, 1, 101, 3, 4, 2, x, 5, 0, 4, n]
/-- The prefix. -/
def pfx (a : Int) : List Nat := if a = 2 then [48, 33, 48, 9, 6, 5, 43, 14, 3, 2, 26, 5, 0, 4, 20] else if a = 8 then p2 1 32 else if a = 9 then p2 2 48 else if a = 10 then p2 3 64 else if a = 11 then p2 4 28 else []
def perr (a : Int) : Int := if Kn a then 0 else 9
theorem pfx_no {a : Int} (h : ¬ Kn a) : pfx a = [] := by
  obtain ⟨h1, h2, h3, h4, h5⟩ := not_kn h
  simp [pfx, h1, h2, h3, h4, h5]
theorem perr_no {a : Int} (h : ¬ Kn a) : perr a = 9 := by simp [perr, h]
theorem perr_kn {a : Int} (h : Kn a) : perr a = 0 := by simp [perr, h]
theorem pfx_lo (a : Int) : Lo 256 (pfx a) := by
  rcases kn_cases a with rfl | rfl | rfl | rfl | rfl | h
  · show ∀ x ∈ [48, 33, 48, 9, 6, 5, 43, 14, 3, 2, 26, 5, 0, 4, 20], x < 256
    decide
  · show ∀ x ∈ p2 1 32, x < 256
    decide
  · show ∀ x ∈ p2 2 48, x < 256
    decide
  · show ∀ x ∈ p2 3 64, x < 256
    decide
  · show ∀ x ∈ p2 4 28, x < 256
    decide
  · rw [pfx_no h]; exact Lo.nil _
theorem pfx_len {a : Int} (h : Kn a) : 15 ≤ (pfx a).length ∧ (pfx a).length ≤ 19 ∧ 20 ≤ siz a ∧ siz a ≤ 64 := by
  rcases h with rfl | rfl | rfl | rfl | rfl <;> decide
/-- Which error there is of a message. -/
def merr (a : Int) (n : Nat) (k : Int) : Int := if ¬ Kn a then 9 else if n ≠ siz a then 1 else if 8192 < k ∨ k < ((pfx a).length + n + 11 : Nat) then 4 else 0
/-- The message. -/
def mtxt (a : Int) (ds : List Nat) (k : Nat) : List Nat := (([0, 1] ++ List.replicate (k - 3 - (pfx a).length - ds.length) 255) ++ [0]) ++ pfx a ++ ds
def mout (a : Int) (ds : List Nat) (k : Int) : List Nat := if merr a ds.length k = 0 then mtxt a ds k.toNat else []
theorem merr_no {a : Int} (h : ¬ Kn a) (n : Nat) (k : Int) : merr a n k = 9 := by simp [merr, h]
theorem merr_siz {a : Int} (h : Kn a) {n : Nat} (hn : n ≠ siz a) (k : Int) : merr a n k = 1 := by simp [merr, h, hn]
theorem merr_lim {a : Int} (h : Kn a) {n : Nat} (hn : n = siz a) {k : Int} (hk : 8192 < k ∨ k < ((pfx a).length + n + 11 : Nat)) : merr a n k = 4 := by
  unfold merr; rw [if_neg (fun hc => hc h), if_neg (by simpa using hn), if_pos hk]
theorem merr_ok {a : Int} (h : Kn a) {n : Nat} (hn : n = siz a) {k : Int} (hk : ¬ (8192 < k ∨ k < ((pfx a).length + n + 11 : Nat))) : merr a n k = 0 := by
  unfold merr; rw [if_neg (fun hc => hc h), if_neg (by simpa using hn), if_neg hk]
theorem merr_zero {a : Int} {n : Nat} {k : Int} (h : merr a n k = 0) : Kn a ∧ n = siz a ∧ k ≤ 8192 ∧ ((pfx a).length + n + 11 : Nat) ≤ k := by
  by_cases h1 : Kn a
  · by_cases h2 : n = siz a
    · by_cases h3 : 8192 < k ∨ k < ((pfx a).length + n + 11 : Nat)
      · rw [merr_lim h1 h2 h3] at h; cases h
      · exact ⟨h1, h2, by omega, by omega⟩
    · rw [merr_siz h1 h2] at h; cases h
  · rw [merr_no h1] at h; cases h
theorem mout_no {a : Int} {ds : List Nat} {k : Int} (h : merr a ds.length k ≠ 0) : mout a ds k = [] := by simp [mout, h]
theorem mout_ok {a : Int} {ds : List Nat} {k : Int} (h : merr a ds.length k = 0) : mout a ds k = mtxt a ds k.toNat := by simp [mout, h]
theorem mtxt_length {a : Int} {ds : List Nat} {k : Nat} (h : (pfx a).length + ds.length + 11 ≤ k) : (mtxt a ds k).length = k := by
  simp only [mtxt, List.length_append, List.length_replicate, List.length_cons, List.length_nil]; omega
theorem mtxt_lo {a : Int} {ds : List Nat} (k : Nat) (h : Lo 256 ds) : Lo 256 (mtxt a ds k) := by
  unfold mtxt
  refine Lo.append (Lo.append (Lo.append (Lo.append ?_ ?_) ?_) (pfx_lo a)) h
  · intro x hx; simp at hx; omega
  · intro x hx; have := List.eq_of_mem_replicate hx; omega
  · intro x hx; simp at hx; omega
theorem mout_length {a : Int} {ds : List Nat} {k : Int} (h : merr a ds.length k = 0) : (mout a ds k).length = k.toNat := by
  obtain ⟨_, _, _, h4⟩ := merr_zero h
  rw [mout_ok h, mtxt_length (by omega)]
theorem mout_lo {a : Int} {ds : List Nat} (k : Int) (h : Lo 256 ds) : Lo 256 (mout a ds k) := by
  unfold mout; split
  · exact mtxt_lo _ h
  · exact Lo.nil _
/-- The message as a number. -/
def mnum (a : Int) (ds : List Nat) (k : Nat) : Nat := val 256 (mtxt a ds k).reverse
theorem val_lo_lt {xs : List Nat} (h : Lo 256 xs) : val 256 xs.reverse < 256 ^ xs.length := by
  have := val_lt (B := 256) (by decide) h.reverse
  rwa [List.length_reverse] at this
theorem mtxt_inj {a : Int} {ds es : List Nat} {k : Nat} (hd : Lo 256 ds) (he : Lo 256 es) (h1 : (pfx a).length + ds.length + 11 ≤ k) (h2 : es.length = ds.length) (h : mnum a ds k = mnum a es k) : ds = es := by
  have e1 : mtxt a ds k = mtxt a es k := by
    have l1 := mtxt_length h1
    have l2 : (mtxt a es k).length = k := mtxt_length (by omega)
    have b1 := be_of_val (mtxt_lo (a := a) k hd)
    have b2 := be_of_val (mtxt_lo (a := a) k he)
    rw [l1] at b1
    rw [l2] at b2
    rw [← b1, ← b2]
    exact congrArg (fun n => be n k) h
  unfold mtxt at e1
  rw [h2] at e1
  simpa using e1
end Go.Proofs.Ytbefchlgonlfiaa.R10
namespace Go.Proofs.Ytbefchlgonlfiaa.R10
open Go.RowKit
set_option linter.unusedVariables false
set_option maxRecDepth 10000

theorem size_any (a : Int) (w : World) :
    Calls Try.prog 28 #[.int .i64 a] w fun e w' => e = .returned (.int .i64 (siz a : Nat)) ∧ w = w' := by
  rcases kn_cases a with rfl | rfl | rfl | rfl | rfl | h
  · go_enter Try.func28, Try.ntmps28
    go_wp2
    go_ret
    exact ⟨rfl, rfl⟩
  · go_enter Try.func28, Try.ntmps28
    go_wp2
    go_ret
    exact ⟨rfl, rfl⟩
  · go_enter Try.func28, Try.ntmps28
    go_wp2
    go_ret
    exact ⟨rfl, rfl⟩
  · go_enter Try.func28, Try.ntmps28
    go_wp2
    go_ret
    exact ⟨rfl, rfl⟩
  · go_enter Try.func28, Try.ntmps28
    go_wp2
    go_ret
    exact ⟨rfl, rfl⟩
  · rw [siz_no h]
    obtain ⟨h1, h2, h3, h4, h5⟩ := not_kn h
    clear h
    go_enter Try.func28, Try.ntmps28
    go_wp2
    go_ret
    exact ⟨rfl, rfl⟩
theorem refsize_any (a : Int) (w : World) :
    Calls Try.prog 27 #[.int .i64 a] w fun e w' => e = .returned (.int .i64 (siz a : Nat)) ∧ w = w' := by
  rcases kn_cases a with rfl | rfl | rfl | rfl | rfl | h
  · go_enter Try.func27, Try.ntmps27
    go_wp2
    go_ret
    exact ⟨rfl, rfl⟩
  · go_enter Try.func27, Try.ntmps27
    go_wp2
    go_ret
    exact ⟨rfl, rfl⟩
  · go_enter Try.func27, Try.ntmps27
    go_wp2
    go_ret
    exact ⟨rfl, rfl⟩
  · go_enter Try.func27, Try.ntmps27
    go_wp2
    go_ret
    exact ⟨rfl, rfl⟩
  · go_enter Try.func27, Try.ntmps27
    go_wp2
    go_ret
    exact ⟨rfl, rfl⟩
  · rw [siz_no h]
    obtain ⟨h1, h2, h3, h4, h5⟩ := not_kn h
    clear h
    go_enter Try.func27, Try.ntmps27
    go_wp2
    go_ret
    exact ⟨rfl, rfl⟩

theorem lit8 (w : World) (us : List Nat) (n : Nat) (hn : us.length = n) (hm : n ≤ 1000) : SlV (w.alloc (.cells (C .u8 us).toArray 5)) (.slice (some ⟨w.heap.size, 0, none⟩) n n) (C .u8 us) := by
  have := (Row.new w 5 (C .u8 us)).slAll (by rw [C_length]; unfold maxLen; omega)
  rwa [C_length, hn] at this
theorem below_new (w : World) (o : Obj) : Below w.heap.size w (w.alloc o) := (Below.refl _ _).alloc (Nat.le_refl _) _

theorem two_any (a : Int) (x n : Nat) (hx : x < 256) (hn : siz a = n) (hn2 : n < 200) (w : World) :
    Calls Try.prog 26 #[.int .i64 a, .int .u8 (x : Int)] w fun e w' => ∃ v', e = .returned v' ∧ SlV w' v' (C .u8 (p2 x n)) ∧ Below w.heap.size w w' := by
  have e1 : (n : Int) % 256 = n := by omega
  have e2 : ((n : Int) + 17) % 256 = ((n + 17 : Nat) : Int) := by omega
  go_enter Try.func26, Try.ntmps26
  go_wp2_with fail
  refine (size_any a _).mono ?_
  rw [hn]
  rintro _ w1 ⟨rfl, rfl⟩
  clear hn
  go_wp2
  go_ret
  exact ⟨_, rfl, lit8 w (p2 x n) 19 rfl (by decide), below_new _ _⟩

set_option maxHeartbeats 4000000 in
theorem prefix_any (a : Int) (w : World) :
    Calls Try.prog 10 #[.int .i64 a] w fun e w' => ∃ v', e = .returned (.tuple #[v', .int .i64 (perr a)]) ∧ SlV w' v' (C .u8 (pfx a)) ∧ Below w.heap.size w w' := by
  rcases kn_cases a with rfl | rfl | rfl | rfl | rfl | h
  · rw [perr_kn (by decide)]
    go_enter Try.func10, Try.ntmps10
    go_wp2
    go_ret2
    exact ⟨_, rfl, lit8 w (pfx 2) 15 rfl (by decide), below_new _ _⟩
  · rw [perr_kn (by decide)]
    go_enter Try.func10, Try.ntmps10
    go_wp2_with fail
    refine (two_any 8 1 32 (by decide) rfl (by decide) _).mono ?_
    rintro _ w1 ⟨v1, rfl, hv, hb⟩
    go_wp2
    go_ret2
    exact ⟨_, rfl, hv, hb⟩
  · rw [perr_kn (by decide)]
    go_enter Try.func10, Try.ntmps10
    go_wp2_with fail
    refine (two_any 9 2 48 (by decide) rfl (by decide) _).mono ?_
    rintro _ w1 ⟨v1, rfl, hv, hb⟩
    go_wp2
    go_ret2
    exact ⟨_, rfl, hv, hb⟩
  · rw [perr_kn (by decide)]
    go_enter Try.func10, Try.ntmps10
    go_wp2_with fail
    refine (two_any 10 3 64 (by decide) rfl (by decide) _).mono ?_
    rintro _ w1 ⟨v1, rfl, hv, hb⟩
    go_wp2
    go_ret2
    exact ⟨_, rfl, hv, hb⟩
  · rw [perr_kn (by decide)]
    go_enter Try.func10, Try.ntmps10
    go_wp2_with fail
    refine (two_any 11 4 28 (by decide) rfl (by decide) _).mono ?_
    rintro _ w1 ⟨v1, rfl, hv, hb⟩
    go_wp2
    go_ret2
    exact ⟨_, rfl, hv, hb⟩
  · rw [perr_no h, pfx_no h]
    obtain ⟨h1, h2, h3, h4, h5⟩ := not_kn h
    clear h
    go_enter Try.func10, Try.ntmps10
    go_wp2
    go_ret2
    exact ⟨_, rfl, SlV.nil _, Below.refl _ _⟩

set_option maxHeartbeats 4000000 in
theorem refprefix_any (a : Int) (w : World) :
    Calls Try.prog 11 #[.int .i64 a] w fun e w' => ∃ v', e = .returned (.tuple #[v', .int .i64 (perr a)]) ∧ SlV w' v' (C .u8 (pfx a)) ∧ Below w.heap.size w w' := by
  rcases kn_cases a with rfl | rfl | rfl | rfl | rfl | h
  · rw [perr_kn (by decide)]
    go_enter Try.func11, Try.ntmps11
    go_wp2_with fail
    refine (refsize_any 2 _).mono ?_
    rintro _ w1 ⟨rfl, rfl⟩
    rw [show ((siz 2 : Nat) : Int) = 20 from rfl]
    go_wp2
    go_ret2
    exact ⟨_, rfl, lit8 w (pfx 2) 15 rfl (by decide), below_new _ _⟩
  · rw [perr_kn (by decide)]
    go_enter Try.func11, Try.ntmps11
    go_wp2_with fail
    refine (refsize_any 8 _).mono ?_
    rintro _ w1 ⟨rfl, rfl⟩
    rw [show ((siz 8 : Nat) : Int) = 32 from rfl]
    go_wp2
    go_ret2
    exact ⟨_, rfl, lit8 w (pfx 8) 19 rfl (by decide), below_new _ _⟩
  · rw [perr_kn (by decide)]
    go_enter Try.func11, Try.ntmps11
    go_wp2_with fail
    refine (refsize_any 9 _).mono ?_
    rintro _ w1 ⟨rfl, rfl⟩
    rw [show ((siz 9 : Nat) : Int) = 48 from rfl]
    go_wp2
    go_ret2
    exact ⟨_, rfl, lit8 w (pfx 9) 19 rfl (by decide), below_new _ _⟩
  · rw [perr_kn (by decide)]
    go_enter Try.func11, Try.ntmps11
    go_wp2_with fail
    refine (refsize_any 10 _).mono ?_
    rintro _ w1 ⟨rfl, rfl⟩
    rw [show ((siz 10 : Nat) : Int) = 64 from rfl]
    go_wp2
    go_ret2
    exact ⟨_, rfl, lit8 w (pfx 10) 19 rfl (by decide), below_new _ _⟩
  · rw [perr_kn (by decide)]
    go_enter Try.func11, Try.ntmps11
    go_wp2_with fail
    refine (refsize_any 11 _).mono ?_
    rintro _ w1 ⟨rfl, rfl⟩
    rw [show ((siz 11 : Nat) : Int) = 28 from rfl]
    go_wp2
    go_ret2
    exact ⟨_, rfl, lit8 w (pfx 11) 19 rfl (by decide), below_new _ _⟩
  · have HS := siz_no h
    rw [perr_no h, pfx_no h]
    obtain ⟨h1, h2, h3, h4, h5⟩ := not_kn h
    clear h
    go_enter Try.func11, Try.ntmps11
    go_wp2_with fail
    refine (refsize_any a _).mono ?_
    rw [HS]
    clear HS
    rintro _ w1 ⟨rfl, rfl⟩
    go_wp2
    go_ret2
    exact ⟨_, rfl, SlV.nil _, Below.refl _ _⟩

theorem room_any (n : Nat) (hn : n ≤ 1000000000) (w : World) :
    Calls Try.prog 29 #[.int .i64 (n : Int)] w fun e w' => e = .returned (.int .i64 ((n + 11 : Nat) : Int)) ∧ w = w' := by
  have e1 : IntKind.i64.wrap (11 + (n : Int)) = ((n + 11 : Nat) : Int) := by rw [IntWalk.i64_in _ ⟨by omega, by omega⟩]; omega
  go_enter Try.func29, Try.ntmps29
  go_wp2
  go_ret
  exact ⟨by simp, rfl⟩
end Go.Proofs.Ytbefchlgonlfiaa.R10
namespace Go.Proofs.Ytbefchlgonlfiaa.R10
open Go.RowKit
set_option linter.unusedVariables false
set_option maxRecDepth 10000

/-- copy(x[o:], s) into the middle of a row. -/
theorem wpList_copy_mid {P : Program} {w : World} {ops : Array Oper} {rest : List Oper} {o : Oper} {a : Act} {Q : Exit → Act → World → Prop} (hgd : o.guard = none) (d s : Operand) (t : TypeId)
    (ho : o.op = .call { callee := .builtin .copy, args := #[d, s], argTypes := #[t, t] }) (e : TypeId) (hu : P.underlying t = some (.slice e)) (hsz : (P.info? e).map (·.size) = some 1)
    (g off n cap m : Nat) (us ys : List Value) {eb : TypeId} (sa : Option Addr) (sc : Nat) (hd : a.eval d = .slice (some ⟨g, off, none⟩) n cap) (hs : a.eval s = .slice sa m sc)
    (hg : Row w g eb us) (hsl : SlV w (.slice sa m sc) ys) (hn : off + n ≤ us.length) (hle : m ≤ n) (hpos : 0 < m) (h1 : ys.all (·.oneCell') = true)
    (h : ∀ w', Row w' g eb (us.take off ++ (ys ++ us.drop (off + m))) → w.grownBy w' (some g) → w'.heap.size = w.heap.size → wpList P ops Q rest (a.put o.dst (goInt (m : Int))) w') :
    wpList P ops Q (o :: rest) a w := by
  obtain ⟨a', c', he, _, _, _, hc⟩ := hsl
  simp only [Value.slice.injEq] at he
  obtain ⟨rfl, rfl, rfl⟩ := he
  obtain ⟨b, of', rfl, hcell⟩ := hc (by omega)
  refine wpList_copy_own hgd d s t t ho e hu hsz g off n cap ⟨b, of', none⟩ ys.length sc hd hs us.toArray eb hg ys (by rw [show Nat.min ys.length n = min ys.length n from rfl]; omega) (fun j v hv => ?_) (by simp; omega) (fun v hv => List.all_eq_true.1 h1 v hv) ?_
  · rw [Addr.add_lit]; exact hcell j v hv
  · simp only []
    exact h _ (hg.setRow _) ⟨rfl, rfl, rfl, by simp, fun k _ hk => setRow_other w g k _ (fun e => hk (by rw [e]))⟩ (by simp)

/-- What the padding's loop has filled. -/
def fil (k i : Nat) : List Nat := [0, 1] ++ List.replicate (i - 2) 255 ++ Z (k - i)
theorem fil_length {k i : Nat} (h2 : 2 ≤ i) (hk : i ≤ k) : (fil k i).length = k := by simp [fil, Z_length]; omega
theorem fil_start {k : Nat} (hk : 2 ≤ k) : (Z k).set 1 1 = fil k 2 := by
  obtain ⟨m, rfl⟩ : ∃ m, k = m + 2 := ⟨k - 2, by omega⟩
  simp [fil, Z, List.replicate_succ]
theorem fil_next {k i : Nat} (h2 : 2 ≤ i) (hk : i < k) : (fil k i).set i 255 = fil k (i + 1) := by
  obtain ⟨m, hm⟩ : ∃ m, k - i = m + 1 := ⟨k - i - 1, by omega⟩
  have e1 : ([0, 1] ++ List.replicate (i - 2) 255 : List Nat).length = i := by simp; omega
  unfold fil
  rw [hm, show Z (m + 1) = 0 :: Z m from rfl, show k - (i + 1) = m by omega, show i + 1 - 2 = (i - 2) + 1 by omega, List.replicate_succ', ← List.append_assoc]
  have := set_at ([0, 1] ++ List.replicate (i - 2) 255) m 255 0
  rw [e1] at this
  unfold Z
  rw [this]
  simp
theorem fil_msg {k : Nat} {xs ys : List Nat} {o : Nat} (h : xs.length + ys.length + 11 ≤ k) (ho : k - xs.length - ys.length = o) :
    let us := fil k (o - 1)
    let vs := us.take o ++ (xs ++ us.drop (o + xs.length))
    vs.take (o + xs.length) ++ (ys ++ vs.drop (o + xs.length + ys.length)) = (([0, 1] ++ List.replicate (k - 3 - xs.length - ys.length) 255) ++ [0]) ++ xs ++ ys := by
  intro us vs
  have e1 : us = (([0, 1] ++ List.replicate (k - 3 - xs.length - ys.length) 255) ++ [0]) ++ Z (k - o) := by
    show fil k (o - 1) = _
    unfold fil
    rw [show k - (o - 1) = (k - o) + 1 by omega, show Z ((k - o) + 1) = [0] ++ Z (k - o) from rfl, show o - 1 - 2 = k - 3 - xs.length - ys.length by omega]
    simp
  have l1 : ((([0, 1] ++ List.replicate (k - 3 - xs.length - ys.length) 255) ++ [0]) : List Nat).length = o := by simp; omega
  generalize ((([0, 1] ++ List.replicate (k - 3 - xs.length - ys.length) 255) ++ [0]) : List Nat) = H at *
  have e2 : vs = H ++ xs ++ Z ys.length := by
    show us.take o ++ (xs ++ us.drop (o + xs.length)) = _
    rw [e1]
    rw [List.take_left' l1, ← List.append_assoc]
    congr 1
    rw [List.drop_append, List.drop_of_length_le (by omega), l1, List.nil_append, Z_drop]
    congr 1
    omega
  rw [e2]
  rw [List.take_left' (by simp [l1]), List.drop_of_length_le (by simp [l1, Z_length]; omega)]
  simp

theorem hsz8 : (Try.prog.info? 5).map (·.size) = some 1 := by kernel_rfl
set_option maxHeartbeats 2000000 in
theorem padded_any (va vb : Value) (xs ys : List Nat) (k : Nat) (w : World) (ha : SlV w va (C .u8 xs)) (hb : SlV w vb (C .u8 ys)) (hx0 : 0 < xs.length) (hy0 : 0 < ys.length) (hk : xs.length + ys.length + 11 ≤ k) (hk2 : k ≤ 8192) :
    Calls Try.prog 30 #[va, vb, .int .i64 (k : Int)] w fun e w' => ∃ v', e = .returned v' ∧ SlV w' v' (C .u8 ((([0, 1] ++ List.replicate (k - 3 - xs.length - ys.length) 255) ++ [0]) ++ xs ++ ys)) ∧ Below w.heap.size w w' := by
  obtain ⟨i0, hi, hz0, hz1, hz2⟩ := info_parts Try.info5
  obtain ⟨o, ho⟩ : ∃ o, k - xs.length - ys.length = o := ⟨_, rfl⟩
  have HM := Away.mk (fil_msg hk ho)
  generalize (([0, 1] ++ List.replicate (k - 3 - xs.length - ys.length) 255) ++ [0]) ++ xs ++ ys = R at *
  obtain ⟨nx, hnx⟩ : ∃ n, xs.length = n := ⟨_, rfl⟩
  obtain ⟨ny, hny⟩ : ∃ n, ys.length = n := ⟨_, rfl⟩
  obtain ⟨sa, sca, rfl, q1, q2⟩ := ha.shp hnx
  obtain ⟨sb, scb, rfl, p1, p2⟩ := hb.shp hny
  rw [hnx, hny] at hk
  rw [hnx, hny] at ho
  rw [hnx, hny] at HM
  rw [hnx] at hx0
  rw [hny] at hy0
  have e1 : IntKind.i64.wrap ((k : Int) - nx) = ((k - nx : Nat) : Int) := by rw [IntWalk.i64_in _ ⟨by omega, by omega⟩]; omega
  have e2 : IntKind.i64.wrap (((k - nx : Nat) : Int) - ny) = (o : Int) := by rw [IntWalk.i64_in _ ⟨by omega, by omega⟩]; omega
  have e3 : IntKind.i64.wrap ((o : Int) - 1) = ((o - 1 : Nat) : Int) := by rw [IntWalk.i64_in _ ⟨by omega, by omega⟩]; omega
  have e4 : IntKind.i64.wrap ((o : Int) + nx) = ((o + nx : Nat) : Int) := by rw [IntWalk.i64_in _ ⟨by omega, by omega⟩]; omega
  go_enter Try.func30, Try.ntmps30
  go_wp2_with (at_make; refine wpList_make_full _ rfl _ _ 22 rfl w.heap.size 5 i0 _ 1 Try.underlying22 hi hz0 hz1 _ _ _ _ k rfl rfl rfl rfl (by rw [hz2]; omega) (by unfold maxLen; omega) (Nat.le_refl _) ?_)
  intro w3 hown hg3
  have hr3 := Row.ofOwn (own_made hown)
  rw [← C_zeros] at hr3
  have hB3 : Below w.heap.size w w3 := (Below.refl _ w).grown hg3 (Nat.le_refl _) (by simp)
  have hco := (hr3.cell 1).trans (C_get _ (by simp; omega))
  have hfo := hr3.frozen 1
  have hr4 : Row (w3.setCell ⟨w.heap.size, 1, none⟩ (.int .u8 1)) w.heap.size 5 (C .u8 (fil k 2)) := by
    have := hr3.set 1 (.int .u8 1)
    have h9 : (C .u8 (Z k)).set 1 (.int .u8 ((1 : Nat) : Int)) = C .u8 (fil k 2) := by rw [← C_set, fil_start (by omega)]
    rw [← h9]; exact this
  have hB4 : Below w.heap.size w (w3.setCell ⟨w.heap.size, 1, none⟩ (.int .u8 1)) := hB3.setCell (Nat.le_refl _) _
  have HR := Away.mk hr4; have HB := Away.mk hB4
  have HA := Away.mk ha; have HBB := Away.mk hb
  clear hown hg3 hr3 hB3 hr4 hB4 ha hb
  go_wp2
  go_loopw [9] (fun iv wr => ∃ i : Nat, 2 ≤ i ∧ i ≤ o - 1 ∧ iv = .int .i64 (i : Int) ∧ Row wr w.heap.size 5 (C .u8 (fil k i)) ∧ Below w.heap.size w wr) (fun i _ => o - (intOf i).toNat)
  case atStart => exact ⟨2, Nat.le_refl _, by omega, rfl, HR.out, HB.out⟩
  case round =>
    clear HR HB hco hfo
    obtain ⟨i, h2, hi1, rfl, hr, hb⟩ := hrel
    have hfl : (fil k i).length = k := fil_length h2 (by omega)
    by_cases hlt : i < o - 1
    · have hco := (hr.cell i).trans (C_get _ (by rw [hfl]; omega))
      have hfo := hr.frozen i
      have HR : Away (Row (wr.setCell ⟨w.heap.size, i, none⟩ (.int .u8 255)) w.heap.size 5 (C .u8 (fil k (i + 1)))) := ⟨by
        have := hr.set i (.int .u8 255)
        have h9 : (C .u8 (fil k i)).set i (.int .u8 ((255 : Nat) : Int)) = C .u8 (fil k (i + 1)) := by rw [← C_set, fil_next h2 (by omega)]
        rw [← h9]; exact this⟩
      have HB : Away (Below w.heap.size w (wr.setCell ⟨w.heap.size, i, none⟩ (.int .u8 255))) := ⟨hb.setCell (Nat.le_refl _) _⟩
      clear hr hb
      have hik : i < k := by omega
      have e5 : IntKind.i64.wrap ((i : Int) + 1) = ((i + 1 : Nat) : Int) := by rw [IntWalk.i64_in _ ⟨by omega, by omega⟩]; omega
      have d1 : decide (i < o - 1) = true := decide_eq_true hlt
      go_wp2
      go_roundw
      case rel => exact ⟨i + 1, by omega, by omega, by go_num, HR.out, HB.out⟩
      case measure => simp [intOf]; omega
    · obtain rfl : i = o - 1 := by omega
      have d1 : decide (o - 1 < o - 1) = false := decide_eq_false (by omega)
      have HR := Away.mk hr; have HB := Away.mk hb
      clear hr hb
      have hok : o ≤ k := by omega
      have d2 : ¬ (k = o) := by omega
      have hSA : SlV wr (.slice sa nx sca) (C .u8 xs) := HA.out.below HB.out
      have e6 : ((k : Int) - (o : Int)).toNat = k - o := by omega
      go_wp2_with (refine wpList_copy_mid rfl (.tmp 32) (.tmp 33) 22 rfl 5 Try.underlying22 hsz8 w.heap.size o (k - o) (k - o) nx _ (C .u8 xs) sa sca rfl rfl HR.out hSA (by rw [C_length, hfl]; omega) (by omega) hx0 (C_allL _ _) ?_)
      intro w5 hr5 hg5 hz5
      rw [← C_take, ← C_drop, ← C_append, ← C_append] at hr5
      have hb5 := HB.out.grown hg5 HB.out.size (by simp)
      have hSB : SlV w5 (.slice sb ny scb) (C .u8 ys) := HBB.out.below hb5
      have hl5 : ((fil k (o - 1)).take o ++ (xs ++ (fil k (o - 1)).drop (o + nx))).length = k := by simp [hfl, hnx]; omega
      have HR5 := Away.mk hr5; have HB5 := Away.mk hb5; have HS5 := Away.mk hSB; have HL5 := Away.mk hl5
      clear hr5 hg5 hz5 hb5 hSB hl5 hSA HR HB
      have d3 : ¬ (k = o + nx) := by omega
      have hok2 : o + nx ≤ k := by omega
      have e7 : ((k : Int) - ((o + nx : Nat) : Int)).toNat = k - (o + nx) := by omega
      go_wp2_with (refine wpList_copy_mid rfl (.tmp 40) (.tmp 41) 22 rfl 5 Try.underlying22 hsz8 w.heap.size (o + nx) (k - (o + nx)) (k - (o + nx)) ny _ (C .u8 ys) sb scb rfl rfl HR5.out HS5.out (by rw [C_length, HL5.out]; omega) (by omega) hy0 (C_allL _ _) ?_)
      intro w6 hr6 hg6 hz6
      rw [← C_take, ← C_drop, ← C_append, ← C_append, HM.out] at hr6
      have hb6 := HB5.out.grown hg6 HB5.out.size (by simp)
      have hlR : R.length = k := by rw [← HM.out]; simp only [List.length_append, List.length_take, List.length_drop, hfl, hnx, hny]; omega
      have HR6 := Away.mk hr6; have HB6 := Away.mk hb6; have HLR := Away.mk hlR
      clear hr6 hg6 hz6 hb6 hlR HR5 HB5 HS5
      go_wp2
      go_ret
      refine ⟨_, rfl, ?_, HB6.out⟩
      have := HR6.out.slAll (by rw [C_length, HLR.out]; unfold maxLen; omega)
      rwa [C_length, HLR.out] at this

set_option maxHeartbeats 2000000 in
theorem message_any (a : Int) (v : Value) (ds : List Nat) (k : Int) (w : World) (hk : -9223372036854775808 ≤ k ∧ k ≤ 9223372036854775807) (hv : SlV w v (C .u8 ds)) (hm : ds.length ≤ 1000000) :
    Calls Try.prog 12 #[.int .i64 a, v, .int .i64 k] w fun e w' => ∃ v', e = .returned (.tuple #[v', .int .i64 (merr a ds.length k)]) ∧ SlV w' v' (C .u8 (mout a ds k)) ∧ Below w.heap.size w w' := by
  obtain ⟨nd, hnd⟩ : ∃ n, ds.length = n := ⟨_, rfl⟩
  obtain ⟨sa, sc, rfl, q1, q2⟩ := hv.shp hnd
  have HV := Away.mk hv
  clear hv
  by_cases hkn : Kn a
  · obtain ⟨p1, p2, p3, p4⟩ := pfx_len hkn
    have HP := Away.mk (perr_kn hkn)
    by_cases hs : nd = siz a
    · have hs' : ds.length = siz a := by omega
      by_cases hl : 8192 < k ∨ k < ((pfx a).length + ds.length + 11 : Nat)
      · have HE := Away.mk (merr_lim hkn hs' hl)
        have HO := Away.mk (mout_no (ds := ds) (by rw [HE.out]; decide))
        obtain ⟨np, hnp⟩ : ∃ n, (pfx a).length = n := ⟨_, rfl⟩
        rw [hnd, hnp] at hl
        rw [hnp] at p1 p2
        rw [HE.out, HO.out]
        clear HE HO
        obtain ⟨z, hz⟩ : ∃ z, siz a = z := ⟨_, rfl⟩
        have HZ := Away.mk hz
        rw [hz] at hs hs' p3 p4
        subst hs
        clear hz hkn hs'
        have e1 : IntKind.i64.wrap ((np : Int) + nd) = ((np + nd : Nat) : Int) := by rw [IntWalk.i64_in _ ⟨by omega, by omega⟩]; omega
        have HL := Away.mk hl
        clear hl
        go_enter Try.func12, Try.ntmps12
        go_wp2_with fail
        refine (prefix_any a _).mono ?_
        rintro _ w1 ⟨v1, rfl, hp, hb1⟩
        rw [HP.out]
        obtain ⟨pa, pc, rfl, r1, r2⟩ := hp.shp hnp
        clear hp
        go_wp2_with fail
        refine (size_any a _).mono ?_
        rintro _ w2 ⟨rfl, rfl⟩
        rw [HZ.out]
        go_wp2_with fail
        refine (room_any (np + nd) (by omega) _).mono ?_
        rintro _ w2 ⟨rfl, rfl⟩
        by_cases hl2 : k < ((np + nd + 11 : Nat) : Int)
        · go_wp2
          go_ret2
          exact ⟨_, rfl, SlV.nil _, hb1⟩
        · have hl3 : 8192 < k := by have := HL.out; omega
          go_wp2
          go_ret2
          exact ⟨_, rfl, SlV.nil _, hb1⟩
      · have HE := Away.mk (merr_ok hkn hs' hl)
        have HO := Away.mk (mout_ok (ds := ds) HE.out)
        obtain ⟨np, hnp⟩ : ∃ n, (pfx a).length = n := ⟨_, rfl⟩
        rw [hnd, hnp] at hl
        rw [hnp] at p1 p2
        rw [HE.out, HO.out]
        clear HE HO
        obtain ⟨z, hz⟩ : ∃ z, siz a = z := ⟨_, rfl⟩
        have HZ := Away.mk hz
        rw [hz] at hs hs' p3 p4
        subst hs
        clear hz hkn hs'
        obtain ⟨K, rfl⟩ : ∃ K : Nat, k = (K : Int) := ⟨k.toNat, by omega⟩
        have hl1 : ¬ (8192 < (K : Int)) := by omega
        have hl2 : ¬ ((K : Int) < ((np + nd + 11 : Nat) : Int)) := by omega
        have hl3 : np + nd + 11 ≤ K := by omega
        have hl4 : K ≤ 8192 := by omega
        clear hl
        have e1 : IntKind.i64.wrap ((np : Int) + nd) = ((np + nd : Nat) : Int) := by rw [IntWalk.i64_in _ ⟨by omega, by omega⟩]; omega
        go_enter Try.func12, Try.ntmps12
        go_wp2_with fail
        refine (prefix_any a _).mono ?_
        rintro _ w1 ⟨v1, rfl, hp, hb1⟩
        rw [HP.out]
        have HPV := Away.mk hp
        obtain ⟨pa, pc, rfl, r1, r2⟩ := hp.shp hnp
        clear hp
        replace HV := Away.mk (HV.out.below hb1)
        go_wp2_with fail
        refine (size_any a _).mono ?_
        rintro _ w2 ⟨rfl, rfl⟩
        rw [HZ.out]
        go_wp2_with fail
        refine (room_any (np + nd) (by omega) _).mono ?_
        rintro _ w2 ⟨rfl, rfl⟩
        go_wp2_with fail
        refine (padded_any _ _ (pfx a) ds K _ HPV.out HV.out (by omega) (by omega) (by omega) (by omega)).mono ?_
        rintro _ w3 ⟨v3, rfl, hv3, hb3⟩
        have HV3 := Away.mk hv3
        have HB := Away.mk (hb1.trans (hb3.mono hb1.size))
        clear hv3 hb1 hb3
        go_wp2
        go_ret2
        exact ⟨_, rfl, HV3.out, HB.out⟩
    · have hs' : ds.length ≠ siz a := by omega
      have HE := Away.mk (merr_siz hkn hs' k)
      have HO := Away.mk (mout_no (ds := ds) (by rw [HE.out]; decide))
      rw [HE.out, HO.out]
      clear HE HO hs' hkn
      obtain ⟨z, hz⟩ : ∃ z, siz a = z := ⟨_, rfl⟩
      have HZ := Away.mk hz
      rw [hz] at hs p3 p4
      clear hz
      have d1 : ¬ ((nd : Int) = (z : Int)) := by omega
      go_enter Try.func12, Try.ntmps12
      go_wp2_with fail
      refine (prefix_any a _).mono ?_
      rintro _ w1 ⟨v1, rfl, hp, hb1⟩
      rw [HP.out]
      clear hp
      go_wp2_with fail
      refine (size_any a _).mono ?_
      rintro _ w2 ⟨rfl, rfl⟩
      rw [HZ.out]
      go_wp2
      go_ret2
      exact ⟨_, rfl, SlV.nil _, hb1⟩
  · have HE := Away.mk (merr_no hkn ds.length k)
    have HO := Away.mk (mout_no (ds := ds) (by rw [HE.out]; decide))
    have HP := Away.mk (perr_no hkn)
    rw [HE.out, HO.out]
    clear HE HO hkn
    go_enter Try.func12, Try.ntmps12
    go_wp2_with fail
    refine (prefix_any a _).mono ?_
    rintro _ w1 ⟨v1, rfl, hp, hb1⟩
    rw [HP.out]
    clear hp
    go_wp2
    go_ret2
    exact ⟨_, rfl, SlV.nil _, hb1⟩
end Go.Proofs.Ytbefchlgonlfiaa.R10
namespace Go.Proofs.Ytbefchlgonlfiaa.R10
open Go.RowKit
set_option linter.unusedVariables false
set_option maxRecDepth 10000

theorem C_snoc (k : IntKind) (l : List Nat) (x : Nat) : C k l ++ [.int k (x : Int)] = C k (l ++ [x]) := by rw [C_append]; rfl
theorem own_row {w : World} {g base n : Nat} {e : TypeId} {us : List Value} (h : Row w g e us) (hb : base ≤ g) (hn : us.length = n) (hm : n ≤ maxLen) : w.ownsRow base e 1 (.slice (some ⟨g, 0, none⟩) n n) n us := by
  subst hn
  have := h.owns (base := base) (cap := 0) hb (Nat.le_refl _) hm
  rwa [List.take_length] at this
/-- The message's head. -/
def hd (j : Nat) : List Nat := [0, 1] ++ List.replicate j 255
theorem hd_next (j : Nat) : hd j ++ [255] = hd (j + 1) := by unfold hd; rw [List.append_assoc, ← List.replicate_succ']
theorem Try.inf8 : (Try.prog.info? 5).map (fun i => (i.zero, i.size, i.bytes)) = some (some (.int .u8 0), 1, 1) := by kernel_rfl

set_option maxHeartbeats 4000000 in
theorem refmessage_any (a : Int) (v : Value) (ds : List Nat) (k : Int) (w : World) (hk : -9223372036854775808 ≤ k ∧ k ≤ 9223372036854775807) (hv : SlV w v (C .u8 ds)) (hm : ds.length ≤ 1000000) :
    Calls Try.prog 13 #[.int .i64 a, v, .int .i64 k] w fun e w' => ∃ v', e = .returned (.tuple #[v', .int .i64 (merr a ds.length k)]) ∧ SlV w' v' (C .u8 (mout a ds k)) ∧ Below w.heap.size w w' := by
  obtain ⟨nd, hnd⟩ : ∃ n, ds.length = n := ⟨_, rfl⟩
  obtain ⟨sa, sc, rfl, q1, q2⟩ := hv.shp hnd
  have HV := Away.mk hv
  clear hv
  by_cases hkn : Kn a
  · obtain ⟨p1, p2, p3, p4⟩ := pfx_len hkn
    have HP := Away.mk (perr_kn hkn)
    by_cases hs : nd = siz a
    · have hs' : ds.length = siz a := by omega
      by_cases hl : 8192 < k ∨ k < ((pfx a).length + ds.length + 11 : Nat)
      · have HE := Away.mk (merr_lim hkn hs' hl)
        have HO := Away.mk (mout_no (ds := ds) (by rw [HE.out]; decide))
        obtain ⟨np, hnp⟩ : ∃ n, (pfx a).length = n := ⟨_, rfl⟩
        rw [hnd, hnp] at hl
        rw [hnp] at p1 p2
        rw [HE.out, HO.out]
        clear HE HO
        obtain ⟨z, hz⟩ : ∃ z, siz a = z := ⟨_, rfl⟩
        have HZ := Away.mk hz
        rw [hz] at hs hs' p3 p4
        subst hs
        clear hz hkn hs'
        have e1 : IntKind.i64.wrap ((np : Int) + nd) = ((np + nd : Nat) : Int) := by rw [IntWalk.i64_in _ ⟨by omega, by omega⟩]; omega
        have e2 : IntKind.i64.wrap (((np + nd : Nat) : Int) + 11) = ((np + nd + 11 : Nat) : Int) := by rw [IntWalk.i64_in _ ⟨by omega, by omega⟩]; omega
        have HL := Away.mk hl
        clear hl
        by_cases hl3 : 8192 < k
        · go_enter Try.func13, Try.ntmps13
          go_wp2_with fail
          refine (refprefix_any a _).mono ?_
          rintro _ w1 ⟨v1, rfl, hp, hb1⟩
          rw [HP.out]
          obtain ⟨pa, pc, rfl, r1, r2⟩ := hp.shp hnp
          clear hp
          go_wp2_with fail
          refine (refsize_any a _).mono ?_
          rintro _ w2 ⟨rfl, rfl⟩
          rw [HZ.out]
          go_wp2
          go_ret2
          exact ⟨_, rfl, SlV.nil _, hb1⟩
        · have hl2 : k < ((np + nd + 11 : Nat) : Int) := by have := HL.out; omega
          go_enter Try.func13, Try.ntmps13
          go_wp2_with fail
          refine (refprefix_any a _).mono ?_
          rintro _ w1 ⟨v1, rfl, hp, hb1⟩
          rw [HP.out]
          obtain ⟨pa, pc, rfl, r1, r2⟩ := hp.shp hnp
          clear hp
          go_wp2_with fail
          refine (refsize_any a _).mono ?_
          rintro _ w2 ⟨rfl, rfl⟩
          rw [HZ.out]
          go_wp2
          go_ret2
          exact ⟨_, rfl, SlV.nil _, hb1⟩
      · have HE := Away.mk (merr_ok hkn hs' hl)
        have HO := Away.mk (mout_ok (ds := ds) HE.out)
        obtain ⟨np, hnp⟩ : ∃ n, (pfx a).length = n := ⟨_, rfl⟩
        rw [hnd, hnp] at hl
        rw [hnp] at p1 p2
        rw [HE.out, HO.out]
        clear HE HO
        obtain ⟨z, hz⟩ : ∃ z, siz a = z := ⟨_, rfl⟩
        have HZ := Away.mk hz
        rw [hz] at hs hs' p3 p4
        subst hs
        clear hz hkn hs'
        obtain ⟨K, rfl⟩ : ∃ K : Nat, k = (K : Int) := ⟨k.toNat, by omega⟩
        have hl1 : ¬ (8192 < (K : Int)) := by omega
        have hl2 : ¬ ((K : Int) < ((np + nd + 11 : Nat) : Int)) := by omega
        have hl3 : np + nd + 11 ≤ K := by omega
        have hl4 : K ≤ 8192 := by omega
        clear hl
        have e1 : IntKind.i64.wrap ((np : Int) + nd) = ((np + nd : Nat) : Int) := by rw [IntWalk.i64_in _ ⟨by omega, by omega⟩]; omega
        have e2 : IntKind.i64.wrap (((np + nd : Nat) : Int) + 11) = ((np + nd + 11 : Nat) : Int) := by rw [IntWalk.i64_in _ ⟨by omega, by omega⟩]; omega
        have e3 : IntKind.i64.wrap ((K : Int) - np) = ((K - np : Nat) : Int) := by rw [IntWalk.i64_in _ ⟨by omega, by omega⟩]; omega
        have e4 : IntKind.i64.wrap (((K - np : Nat) : Int) - nd) = ((K - np - nd : Nat) : Int) := by rw [IntWalk.i64_in _ ⟨by omega, by omega⟩]; omega
        have e5 : IntKind.i64.wrap (((K - np - nd : Nat) : Int) - 1) = ((K - np - nd - 1 : Nat) : Int) := by rw [IntWalk.i64_in _ ⟨by omega, by omega⟩]; omega
        have HM : Away (mtxt a ds K = (hd (K - np - nd - 1 - 2) ++ [0]) ++ pfx a ++ ds) := ⟨by
          unfold mtxt hd
          rw [hnp, hnd, show K - np - nd - 1 - 2 = K - 3 - np - nd by omega]⟩
        rw [Int.toNat_natCast, HM.out]
        clear HM
        obtain ⟨T, hT⟩ : ∃ T, K - np - nd - 1 = T := ⟨_, rfl⟩
        rw [hT] at e5 ⊢
        have hTK : T + 1 + np + nd = K := by omega
        go_enter Try.func13, Try.ntmps13
        go_wp2_with fail
        refine (refprefix_any a _).mono ?_
        rintro _ w1 ⟨v1, rfl, hp, hb1⟩
        rw [HP.out]
        have HPV := Away.mk hp
        obtain ⟨pa, pc, rfl, r1, r2⟩ := hp.shp hnp
        clear hp
        replace HV := Away.mk (HV.out.below hb1)
        go_wp2_with fail
        refine (refsize_any a _).mono ?_
        rintro _ w2 ⟨rfl, rfl⟩
        rw [HZ.out]
        have hr0 := Row.new w1 5 (C .u8 [0, 1])
        have ho0 := own_row hr0 (Nat.le_refl w1.heap.size) (n := 2) rfl (by decide)
        have hbn : Below w1.heap.size w1 (w1.alloc (.cells (C .u8 [0, 1]).toArray 5)) := below_new _ _
        have HO0 : Away ((w1.alloc (.cells #[.int .u8 0, .int .u8 1] 5)).ownsRow w1.heap.size 5 1 (.slice (some ⟨w1.heap.size, 0, none⟩) 2 2) (2 + 0) (C .u8 (hd 0))) := ⟨ho0⟩; have HBN : Away (Below w1.heap.size w1 (w1.alloc (.cells #[.int .u8 0, .int .u8 1] 5))) := ⟨hbn⟩
        clear hr0 ho0 hbn
        go_wp2
        go_loopw [10] (fun v wr => ∃ j : Nat, 2 + j ≤ T ∧ wr.ownsRow w1.heap.size 5 1 v (2 + j) (C .u8 (hd j)) ∧ Below w1.heap.size w1 wr) (fun v _ => T - lenS v)
        case atStart => exact ⟨0, by omega, HO0.out, HBN.out⟩
        case round =>
          clear HO0 HBN
          obtain ⟨j, hj, ho, hb⟩ := hrel
          obtain ⟨g, cap, rfl, hbg, hgl, hnc, hcm⟩ := own_shape ho (by omega)
          have HO := Away.mk ho; have HB := Away.mk hb
          clear ho hb
          by_cases hlt : 2 + j < T
          · have d1 : decide (2 + j < T) = true := decide_eq_true hlt
            go_wp2_with (at_builtin; refine wpList_append_sl rfl (.tmp 48) (.tmp 49) 22 rfl w1.heap.size 5 _ 1 Try.underlying22 Try.inf8 rfl _ (2 + j) _ rfl (HO.out.alloc _) _ [.int .u8 255] rfl (SlV_one _ _ _) (by simp [Value.oneCell']) (by simp; unfold maxLen; omega) (by simp; omega) (by have := HB.out.size; simp; omega) ?_)
            intro v3 w3 ho3 hg3
            have hb3 : Below w1.heap.size w1 w3 := (HB.out.alloc HB.out.size _).grown hg3 (by have := HB.out.size; simp; omega) (fun k hk => (HO.out.lt k hk).1)
            have ho3 : w3.ownsRow w1.heap.size 5 1 v3 (2 + (j + 1)) (C .u8 (hd (j + 1))) := by
              have := ho3
              rw [show ([.int .u8 255] : List Value) = [.int .u8 ((255 : Nat) : Int)] from rfl, C_snoc, hd_next] at this
              exact this
            obtain ⟨g3, cap3, rfl, hbg3, hgl3, hnc3, hcm3⟩ := own_shape ho3 (by omega)
            clear HB HO hg3
            go_wp2
            go_roundw
            case rel => exact ⟨j + 1, by omega, ho3, hb3⟩
            case measure => simp [lenS]; omega
          · obtain rfl : T = 2 + j := by omega
            have d1 : decide (2 + j < 2 + j) = false := decide_eq_false (by omega)
            go_wp2_with (at_builtin; refine wpList_append_sl rfl (.tmp 51) (.tmp 52) 22 rfl w1.heap.size 5 _ 1 Try.underlying22 Try.inf8 rfl _ (2 + j) _ rfl (HO.out.alloc _) _ [.int .u8 0] rfl (SlV_one _ _ _) (by simp [Value.oneCell']) (by simp; unfold maxLen; omega) (by simp; omega) (by have := HB.out.size; simp; omega) ?_)
            intro v3 w3 ho3 hg3
            have hb3 : Below w1.heap.size w1 w3 := (HB.out.alloc HB.out.size _).grown hg3 (by have := HB.out.size; simp; omega) (fun k hk => (HO.out.lt k hk).1)
            have ho3 : w3.ownsRow w1.heap.size 5 1 v3 (2 + j + 1) (C .u8 (hd j ++ [0])) := by
              have := ho3
              rw [show ([.int .u8 0] : List Value) = [.int .u8 ((0 : Nat) : Int)] from rfl, C_snoc] at this
              exact this
            have HO3 := Away.mk ho3; have HB3 := Away.mk hb3; have HP3 := Away.mk (HPV.out.below hb3); have HV3 := Away.mk (HV.out.below hb3)
            clear HO HB hg3 ho3 hb3
            go_wp2_with (at_builtin; refine wpList_append_sl rfl (.tmp 54) (.tmp 55) 22 rfl w1.heap.size 5 _ 1 Try.underlying22 Try.inf8 rfl _ (2 + j + 1) _ rfl HO3.out _ (C .u8 (pfx a)) rfl HP3.out (C_one _ _) (by rw [C_length, hnp]; unfold maxLen; omega) (by rw [C_length, hnp]; omega) HB3.out.size ?_)
            intro v4 w4 ho4 hg4
            have hb4 := HB3.out.grown hg4 HB3.out.size (fun k hk => (HO3.out.lt k hk).1)
            rw [← C_append, C_length, hnp] at ho4
            have HO4 := Away.mk ho4; have HB4 := Away.mk hb4; have HV4 := Away.mk (HV.out.below hb4)
            clear HO3 HB3 HP3 HV3 ho4 hg4 hb4
            go_wp2_with (at_builtin; refine wpList_append_sl rfl (.tmp 57) (.tmp 58) 22 rfl w1.heap.size 5 _ 1 Try.underlying22 Try.inf8 rfl _ (2 + j + 1 + np) _ rfl HO4.out _ (C .u8 ds) rfl HV4.out (C_one _ _) (by rw [C_length, hnd]; unfold maxLen; omega) (by rw [C_length, hnd]; omega) HB4.out.size ?_)
            intro v5 w5 ho5 hg5
            have hb5 := HB4.out.grown hg5 HB4.out.size (fun k hk => (HO4.out.lt k hk).1)
            rw [← C_append] at ho5
            have HO5 := Away.mk (SlV.ofOwn ho5); have HB5 := Away.mk (hb1.trans (hb5.mono hb1.size))
            clear HO4 HB4 HV4 ho5 hg5 hb5
            go_wp2
            go_ret2
            rw [show 2 + j - 2 = j by omega]
            refine ⟨v5, rfl, ?_, HB5.out⟩
            have := HO5.out
            simpa using this
    · have hs' : ds.length ≠ siz a := by omega
      have HE := Away.mk (merr_siz hkn hs' k)
      have HO := Away.mk (mout_no (ds := ds) (by rw [HE.out]; decide))
      rw [HE.out, HO.out]
      clear HE HO hs' hkn
      obtain ⟨z, hz⟩ : ∃ z, siz a = z := ⟨_, rfl⟩
      have HZ := Away.mk hz
      rw [hz] at hs p3 p4
      clear hz
      have d1 : ¬ ((nd : Int) = (z : Int)) := by omega
      go_enter Try.func13, Try.ntmps13
      go_wp2_with fail
      refine (refprefix_any a _).mono ?_
      rintro _ w1 ⟨v1, rfl, hp, hb1⟩
      rw [HP.out]
      clear hp
      go_wp2_with fail
      refine (refsize_any a _).mono ?_
      rintro _ w2 ⟨rfl, rfl⟩
      rw [HZ.out]
      go_wp2
      go_ret2
      exact ⟨_, rfl, SlV.nil _, hb1⟩
  · have HE := Away.mk (merr_no hkn ds.length k)
    have HO := Away.mk (mout_no (ds := ds) (by rw [HE.out]; decide))
    have HP := Away.mk (perr_no hkn)
    rw [HE.out, HO.out]
    clear HE HO hkn
    go_enter Try.func13, Try.ntmps13
    go_wp2_with fail
    refine (refprefix_any a _).mono ?_
    rintro _ w1 ⟨v1, rfl, hp, hb1⟩
    rw [HP.out]
    clear hp
    go_wp2
    go_ret2
    exact ⟨_, rfl, SlV.nil _, hb1⟩
end Go.Proofs.Ytbefchlgonlfiaa.R10
