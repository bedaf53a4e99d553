/-
  Proved: for every byte slice b and every integer more the law NatBack returns true, and the bytes read as before. No conditions.
-/
import Derived.Test.YtmbmabgdhdbmeaaRows
import Derived.Test.YtmbmabgdhdbmeaaNatF
import Derived.Test.YtmbmabgdhdbmeaaNatG
import Derived.Test.YtmbmabgdhdbmeaaLawK
import Derived.WalkKit
import Derived.ProofKit
import Derived.OpenShut
import Derived.ShutString
import Derived.ChangeOld
import Derived.Below
import Derived.Deep.Cut
import Derived.Deep.CutRange
import Derived.Deep.DeepCutAuto
namespace Go.Proofs.Ytmbmabgdhdbmeaa.natBack
open Go.ChangeShapes Go.WideShapes Go.ChangeAt Go.RowKit
open Go.ChangeMaps (open_string shut_string)
set_option linter.unusedVariables false

theorem own : ownKnob Try.prog.godebug = none := by kernel_rfl
theorem laidOut : laidOutB Try.prog = true := by kernel_rfl

theorem and63 (x : Int) : bits .and .i64 x 63 = x % 64 := by
  have h1 : (BitVec.ofInt 64 x &&& BitVec.ofInt 64 63).toNat = (x % 18446744073709551616).toNat % 64 := by
    rw [BitVec.toNat_and, show (BitVec.ofInt 64 63).toNat = 2 ^ 6 - 1 from rfl, Nat.and_two_pow_sub_one_eq_mod, BitVec.toNat_ofInt]
    rfl
  show IntKind.i64.wrap (((BitVec.ofInt 64 x &&& BitVec.ofInt 64 63).toNat : Nat) : Int) = x % 64
  rw [h1, IntKind.wrap_i64]
  omega
theorem str_run8 {w : World} {v : Value} {bs : List Nat} (h : SlV w v (C .u8 bs)) : (convert 24 9 v).run Try.prog w = .ok (.string (strOfNums (bs.map fun (n : Nat) => (n : Int)))) w := by
  refine run_string w 24 9 5 Try.underlying24 Try.underlying5 Try.underlying9 v _ ?_
  have e : U (bs.map fun (n : Nat) => (n : Int)) = C .u8 bs := by simp [U, C]
  rw [e]; exact h
/-- Bytes without a nought ahead: as many as their number has. -/
theorem size_of_bytes {bs : List Nat} (hl : Lo 256 bs) (h : 0 < bs.length → bs.getD 0 0 ≠ 0) : (bl (val 256 bs.reverse) + 7) / 8 = bs.length := by
  have hI := Is.ofLast (B := 256) hl.reverse (fun hp => by
    rw [List.length_reverse] at hp ⊢
    rw [rev_getD _ _ (by omega), show bs.length - 1 - (bs.length - 1) = 0 by omega]
    exact h hp)
  have h1 := fun k => (hI.len (by decide) k)
  simp only [List.length_reverse] at h1
  have h2 := fun k => (size_le (val 256 bs.reverse) k)
  apply Nat.le_antisymm
  · exact (h2 _).2 ((h1 _).1 (Nat.le_refl _))
  · exact (h1 _).2 ((h2 _).1 (Nat.le_refl _))
/-- A guarded operation that is not wanted. -/
theorem wpAnyH_skipL {P : Program} {L : List Oper} {Q : Exit → Act → World → Prop} {md : Region.Mode} {S : World → Prop} {i : Nat} {oi : Oper} {fuel : Nat} {listed : Array Bool} {a : Act} {w : World} (hi : L[i]? = some oi)
    (hs : Region.noSelect L.toArray = true) (hf : Region.free md L.toArray listed i = true) (hr : (Region.ready md L.toArray listed).contains i = true)
    (hQ : ∀ c a w, Q (.panic c) (a.put oi.dst undef) w → Q (.panic c) a w) (hw : Region.wanted oi (yielded L.toArray a.tmps) = false) (hS : S w)
    (h : wpAnyH P md L.toArray Q S fuel (listed.setIfInBounds i true) (a.put oi.dst undef) w) : wpAnyH P md L.toArray Q S (fuel + 1) listed a w :=
  wpAnyH_take (getL hi) hs hf hr hQ (.inr ⟨hw, rfl⟩) hS h
theorem cell_at {w : World} {b o n c m : Nat} {xs : List Nat} (h : SlV w (.slice (some ⟨b, o, none⟩) n c) (C .u32 xs)) (hm : m < xs.length) : w.cell? ⟨b, o + m, none⟩ = some (.int .u32 (xs.getD m 0 : Nat)) := by
  obtain ⟨b', o', e, _, hcx⟩ := h.cells (by rw [C_length]; omega)
  cases e
  exact hcx m _ (C_get _ hm)
theorem under80 {N n K : Nat} (h : N < 256 ^ n) (hn : n ≤ 300) (hK : 75 ≤ K) : N < W32 ^ K :=
  Nat.lt_of_lt_of_le h (by rw [pow8, pow32]; exact Nat.pow_le_pow_right (by decide) (by omega : 8 * n ≤ 32 * K))
theorem bytes_n {v : Value} {N K : Nat} (w : World) (h : Num w v N K) (hK : K ≤ 1000) :
    Calls Try.prog 17 #[v] w fun e w' => ∃ v', e = .returned v' ∧ SlV w' v' (C .u8 (be N ((bl N + 7) / 8))) ∧ Below w.heap.size w w' := by
  obtain ⟨xs, h1, h2, h3, h4⟩ := h
  subst h3
  exact bytes_any v xs w h1 h2 (by omega)
theorem fill_n {v : Value} {N K : Nat} (n : Nat) (w : World) (h : Num w v N K) (hK : K ≤ 1000) (hn : n ≤ 8192) (hsz : (bl N + 7) / 8 ≤ n) :
    Calls Try.prog 12 #[v, .int .i64 (n : Int)] w fun e w' => ∃ v', e = .returned (.tuple #[v', .int .i64 0]) ∧ SlV w' v' (C .u8 (be N n)) ∧ Below w.heap.size w w' := by
  obtain ⟨xs, h1, h2, h3, h4⟩ := h
  subst h3
  exact fill_ok v xs n w h1 h2 (by omega) hn hsz
theorem fill_n1 {v : Value} {N K : Nat} (n : Nat) (w : World) (h : Num w v N K) (hK : K ≤ 1000) (hn : n ≤ 8192) (hsz : n < (bl N + 7) / 8) :
    Calls Try.prog 12 #[v, .int .i64 (n : Int)] w fun e w' => e = .returned (.tuple #[.slice none 0 0, .int .i64 1]) ∧ Below w.heap.size w w' := by
  obtain ⟨xs, h1, h2, h3, h4⟩ := h
  subst h3
  exact fill_small v xs n w h1 h2 (by omega) hn hsz
set_option maxHeartbeats 8000000 in
/-- The walk: the law returns true and writes nothing that was there. -/
theorem walk (a0 : Option Addr) (len0 cap0 : Nat) (z0 : List Int) (a1 : Int) (w : World) (w0 : IsRow .u8 w a0 len0 cap0 z0) (w1 : (Lit.int .i64 a1).wf = true) :
    Calls Try.prog 10 #[.slice a0 len0 cap0, .int .i64 a1] w fun e w' => e = .returned (.bool true) ∧ Below w.heap.size w w' := by
  obtain ⟨bs, hs, hl, hn⟩ := open8 w0
  have hm0 : len0 ≤ maxLen := by have := hs.len; rwa [C_length, hn] at this
  have hi0 : (len0 : Int) ≤ 9223372036854775807 := by unfold maxLen at hm0; omega
  clear w0 w1
  by_cases h0 : 300 < (len0 : Int)
  · go_enter Try.func10, Try.ntmps10
    go_wp2_with (go_at_call 11; refine (alive_true _).mono ?_; rintro e w' ⟨rfl, hb⟩)
    go_ret
    exact ⟨rfl, hb⟩
  by_cases hz : 0 < len0 ∧ bs.getD 0 0 = 0
  · obtain ⟨b, off, rfl, _, hcx⟩ := hs.cells (by rw [C_length]; omega)
    have hck := hcx 0 _ (C_get _ (by omega))
    rw [Nat.add_zero, hz.2] at hck
    have hp := hz.1
    have d0 : decide (300 < (len0 : Int)) = false := decide_eq_false h0
    clear hcx hs hz
    go_enter Try.func10, Try.ntmps10
    go_wp2_with (go_at_call 11; refine (alive_true _).mono ?_; rintro e w' ⟨rfl, hb⟩)
    go_ret
    exact ⟨rfl, hb⟩
  have hnz : 0 < bs.length → bs.getD 0 0 ≠ 0 := fun hp h => hz ⟨by omega, h⟩
  have hsize := size_of_bytes hl hnz
  have hN : val 256 bs.reverse < 256 ^ len0 := by have := val_lt (B := 256) (by decide) hl.reverse; rwa [List.length_reverse, hn] at this
  have hbe := be_of_val hl
  obtain ⟨N, hNN⟩ : ∃ N, val 256 bs.reverse = N := ⟨_, rfl⟩
  have hrd := fun x hx => read_any (.slice a0 len0 cap0) bs x hx hl (by omega)
  rw [hNN] at hsize hN hbe
  simp only [hNN] at hrd
  rw [hn] at hsize hbe
  obtain ⟨kk, hkk⟩ : ∃ kk : Nat, a1 % 64 = (kk : Int) := ⟨(a1 % 64).toNat, by omega⟩
  have hkl : kk ≤ 63 := by omega
  have hand : bits .and .i64 a1 63 = (kk : Int) := by rw [and63]; exact hkk
  have hb0 : 0 < len0 → ∃ b off, a0 = some ⟨b, off, none⟩ ∧ w.cell? ⟨b, off, none⟩ = some (.int .u8 (bs.getD 0 0 : Nat)) := fun hp => by
    obtain ⟨b, off, e, _, hcx⟩ := hs.cells (by rw [C_length]; omega)
    have := hcx 0 _ (C_get _ (by omega))
    rw [Nat.add_zero] at this
    exact ⟨b, off, e, this⟩
  have HS := Away.mk hs; have HRD := Away.mk hrd; have HSZ := Away.mk hsize; have HN := Away.mk hN; have HBE := Away.mk hbe
  have hN32 : N < W32 ^ 80 := under80 hN (by omega) (by decide)
  have LN := Away.mk hN32
  have h300 : len0 ≤ 300 := by omega
  have d300 : decide (300 < (len0 : Int)) = false := decide_eq_false h0
  clear hs hrd hsize hN hbe hN32 hNN hkk hz hm0 h0
  have hfirst : ∀ (P : Prop), (len0 = 0 → P) → (∀ (b off x : Nat), 0 < len0 → a0 = some ⟨b, off, none⟩ → x ≠ 0 → x < 256 → w.cell? ⟨b, off, none⟩ = some (.int .u8 (x : Int)) → P) → P := fun P p1 p2 => by
    rcases Nat.eq_zero_or_pos len0 with h | h
    · exact p1 h
    · obtain ⟨b, off, e, hc⟩ := hb0 h
      exact p2 b off _ h e (hnz (by omega)) (hl.getD (by decide) _) hc
  clear hb0 hnz hl hn
  refine hfirst _ (fun hz => ?_) (fun b off x hp e hx hx2 hcx => ?_)
  · subst hz
    have HF : Away (N < 256 ^ kk) := ⟨Nat.lt_of_lt_of_le HN.out (Nat.pow_le_pow_right (by decide) (by omega))⟩
    clear hfirst
    go_enter Try.func10, Try.ntmps10
    go_wp2_with fail
    refine (HRD.out _ HS.out).mono ?_
    rintro _ w1 ⟨v5, rfl, ⟨xs, hI, hz5, -⟩, hb1⟩
    have hxl : xs.length ≤ 80 := (hI.len (by decide) _).2 LN.out
    have e0 : N = 0 := by have := HN.out; simpa using this
    have hm5 : xs.length = 0 := by have := (hI.len (by decide) 0).2 (by rw [e0]; decide); omega
    obtain ⟨a5, c5, rfl, _, _⟩ := hz5.shapeC hm5
    have E0 := Away.mk e0
    clear e0
    have HNU : Away (Num w1 (.slice a5 0 c5) N 80) := ⟨⟨xs, hz5, hI.2.1, hI.1, hxl⟩⟩
    have HB := Away.mk hb1
    clear hz5 hI hxl hm5 hb1
    go_wp2_with fail
    refine (fill_n (K := 80) kk w1 HNU.out (by decide) (by omega) (by have := HSZ.out; omega)).mono ?_
    rintro _ w2 ⟨v7, rfl, h7, hb2⟩
    obtain ⟨a7, c7, rfl, _, _⟩ := h7.shapeC (n := kk) (be_length _ _)
    have HF7 := Away.mk h7
    replace HNU := Away.mk (HNU.out.below hb2)
    replace HB := Away.mk (HB.out.trans (hb2.mono HB.out.size))
    clear h7 hb2
    go_wp2_with fail
    refine (fill_bad _ (-1) w2 (by omega)).mono ?_
    rintro _ w3 ⟨rfl, hb3⟩
    replace HNU := Away.mk (HNU.out.below hb3)
    replace HF7 := Away.mk (HF7.out.below hb3)
    replace HB := Away.mk (HB.out.trans (hb3.mono HB.out.size))
    have hB := HB.out.drew
    have hdr : Below w3.heap.size w3 w3.drew := (Below.refl _ _).drew
    replace HNU := Away.mk (HNU.out.below hdr)
    replace HF7 := Away.mk (HF7.out.below hdr)
    clear hdr
    clear hb3
    have cvb : ∀ x, Below w.heap.size w x → (convert 24 9 (Value.slice a0 0 cap0)).run Try.prog x = .ok (.string (strOfNums (bs.map fun (n : Nat) => (n : Int)))) x := fun x hx => str_run8 (HS.out.below hx)
    have CVB := Away.mk cvb
    clear cvb
    go_wp2_with fail
    refine wp_region_noPanic ?_
    refine wp_region_held_drew (S := fun w' => Below w.heap.size w w' ∧ (convert 24 9 (Value.slice a0 0 cap0)).run Try.prog w' = .ok (.string (strOfNums (bs.map fun (n : Nat) => (n : Int)))) w') (by kernel_rfl) (⟨hB, CVB.out _ hB⟩) (fun hHeld => ?_)
    refine allReadyH_oneL (i := 0) (by kernel_rfl) rfl (by rfl) (fun K hK => ?_)
    go_simp
    refine (alive_true _).mono ?_
    rintro _ y1 ⟨rfl, hb⟩
    have hcy0 := hB
    have hcy1 : Below w.heap.size w y1 := hcy0.trans (hb.mono hcy0.size)
    replace HNU := Away.mk (HNU.out.below hb)
    replace HF7 := Away.mk (HF7.out.below hb)
    clear hb
    refine hK.out _ _ (⟨hcy1, CVB.out _ hcy1⟩) (fun hHeld => ?_)
    clear hK K
    refine wpAnyH_takeL (i := 1) (v := ?v1) rfl (by kernel_rfl) (by kernel_rfl) (by kernel_rfl) (fun _ _ _ h => h) (by rfl) ?h1 (by assumption) ?_
    case h1 => intro w hSw; go_simp <;> with_reducible rfl
    simp only [Act.put, List.setIfInBounds_toArray, List.set_cons_zero, List.set_cons_succ]
    refine wpAnyH_takeL (i := 2) (v := ?v2) rfl (by kernel_rfl) (by kernel_rfl) (by kernel_rfl) (fun _ _ _ h => h) (by rfl) ?h2 (by assumption) ?_
    case h2 => intro w hSw; go_simp <;> with_reducible rfl
    simp only [Act.put, List.setIfInBounds_toArray, List.set_cons_zero, List.set_cons_succ]
    refine wpAnyH_takeL (i := 5) (v := ?v5) rfl (by kernel_rfl) (by kernel_rfl) (by kernel_rfl) (fun _ _ _ h => h) (by rfl) ?h5 (by assumption) ?_
    case h5 => intro w hSw; go_simp <;> with_reducible rfl
    simp only [Act.put, List.setIfInBounds_toArray, List.set_cons_zero, List.set_cons_succ]
    refine wpAnyH_takeL (i := 6) (v := ?v6) rfl (by kernel_rfl) (by kernel_rfl) (by kernel_rfl) (fun _ _ _ h => h) (by rfl) ?h6 (by assumption) ?_
    case h6 => intro w hSw; go_simp <;> with_reducible rfl
    simp only [Act.put, List.setIfInBounds_toArray, List.set_cons_zero, List.set_cons_succ]
    refine allReadyH_oneL (i := 3) (by kernel_rfl) rfl (by rfl) (fun K hK => ?_)
    go_simp
    refine (bytes_n (K := 80) _ HNU.out (by decide)).mono ?_
    rintro _ y2 ⟨v50, rfl, h50, hb⟩
    have hcy2 : Below w.heap.size w y2 := hcy1.trans (hb.mono hcy1.size)
    replace HNU := Away.mk (HNU.out.below hb)
    replace HF7 := Away.mk (HF7.out.below hb)
    rw [HSZ.out, HBE.out] at h50
    have cv50 := str_run8 h50
    clear hb h50
    refine hK.out _ _ (⟨hcy2, CVB.out _ hcy2⟩) (fun hHeld => ?_)
    clear hK K
    refine allReadyH_oneL (i := 4) (by kernel_rfl) rfl (by rfl) (fun K hK => ?_)
    go_simp
    skip
    refine hK.out _ _ (⟨hcy2, CVB.out _ hcy2⟩) (fun hHeld => ?_)
    clear hK K
    refine wpAnyH_takeL (i := 7) (v := ?v7) rfl (by kernel_rfl) (by kernel_rfl) (by kernel_rfl) (fun _ _ _ h => h) (by rfl) ?h7 (by assumption) ?_
    case h7 => intro w hSw; go_simp <;> with_reducible rfl
    simp only [Act.put, List.setIfInBounds_toArray, List.set_cons_zero, List.set_cons_succ]
    refine wpAnyH_takeL (i := 8) (v := ?v8) rfl (by kernel_rfl) (by kernel_rfl) (by kernel_rfl) (fun _ _ _ h => h) (by rfl) ?h8 (by assumption) ?_
    case h8 => intro w hSw; go_simp <;> with_reducible rfl
    simp only [Act.put, List.setIfInBounds_toArray, List.set_cons_zero, List.set_cons_succ]
    refine wpAnyH_takeL (i := 9) (v := ?v9) rfl (by kernel_rfl) (by kernel_rfl) (by kernel_rfl) (fun _ _ _ h => h) (by rfl) ?h9 (by assumption) ?_
    case h9 => intro w hSw; go_simp <;> with_reducible rfl
    simp only [Act.put, List.setIfInBounds_toArray, List.set_cons_zero, List.set_cons_succ]
    refine wpAnyH_takeL (i := 10) (v := ?v10) rfl (by kernel_rfl) (by kernel_rfl) (by kernel_rfl) (fun _ _ _ h => h) (by rfl) ?h10 (by assumption) ?_
    case h10 => intro w hSw; go_simp <;> with_reducible rfl
    simp only [Act.put, List.setIfInBounds_toArray, List.set_cons_zero, List.set_cons_succ]
    refine wpAnyH_takeL (i := 11) (v := ?v11) rfl (by kernel_rfl) (by kernel_rfl) (by kernel_rfl) (fun _ _ _ h => h) (by rfl) ?h11 (by assumption) ?_
    case h11 => intro w hSw; go_simp <;> with_reducible rfl
    simp only [Act.put, List.setIfInBounds_toArray, List.set_cons_zero, List.set_cons_succ]
    refine wpAnyH_takeL (i := 12) (v := ?v12) rfl (by kernel_rfl) (by kernel_rfl) (by kernel_rfl) (fun _ _ _ h => h) (by rfl) ?h12 (by assumption) ?_
    case h12 => intro w hSw; go_simp <;> with_reducible rfl
    simp only [Act.put, List.setIfInBounds_toArray, List.set_cons_zero, List.set_cons_succ]
    refine wpAnyH_takeL (i := 13) (v := ?v13) rfl (by kernel_rfl) (by kernel_rfl) (by kernel_rfl) (fun _ _ _ h => h) (by rfl) ?h13 (by assumption) ?_
    case h13 => intro w hSw; go_simp <;> with_reducible rfl
    simp only [Act.put, List.setIfInBounds_toArray, List.set_cons_zero, List.set_cons_succ]
    refine wpAnyH_takeL (i := 14) (v := ?v14) rfl (by kernel_rfl) (by kernel_rfl) (by kernel_rfl) (fun _ _ _ h => h) (by rfl) ?h14 (by assumption) ?_
    case h14 => intro w hSw; go_simp <;> with_reducible rfl
    simp only [Act.put, List.setIfInBounds_toArray, List.set_cons_zero, List.set_cons_succ]
    refine wpAnyH_takeL (i := 15) (v := ?v15) rfl (by kernel_rfl) (by kernel_rfl) (by kernel_rfl) (fun _ _ _ h => h) (by rfl) ?h15 (by assumption) ?_
    case h15 => intro w hSw; go_simp <;> with_reducible rfl
    simp only [Act.put, List.setIfInBounds_toArray, List.set_cons_zero, List.set_cons_succ]
    refine wpAnyH_takeL (i := 16) (v := ?v16) rfl (by kernel_rfl) (by kernel_rfl) (by kernel_rfl) (fun _ _ _ h => h) (by rfl) ?h16 (by assumption) ?_
    case h16 => intro w hSw; go_simp <;> with_reducible rfl
    simp only [Act.put, List.setIfInBounds_toArray, List.set_cons_zero, List.set_cons_succ]
    refine wpAnyH_takeL (i := 17) (v := ?v17) rfl (by kernel_rfl) (by kernel_rfl) (by kernel_rfl) (fun _ _ _ h => h) (by rfl) ?h17 (by assumption) ?_
    case h17 => intro w hSw; go_simp <;> with_reducible rfl
    simp only [Act.put, List.setIfInBounds_toArray, List.set_cons_zero, List.set_cons_succ]
    refine wpAnyH_takeL (i := 18) (v := ?v18) rfl (by kernel_rfl) (by kernel_rfl) (by kernel_rfl) (fun _ _ _ h => h) (by rfl) ?h18 (by assumption) ?_
    case h18 => intro w hSw; go_simp <;> with_reducible rfl
    simp only [Act.put, List.setIfInBounds_toArray, List.set_cons_zero, List.set_cons_succ]
    refine wpAnyH_takeL (i := 19) (v := .int .i64 (kk : Int)) rfl (by kernel_rfl) (by kernel_rfl) (by kernel_rfl) (fun _ _ _ h => h) (by rfl) ?h19 (by assumption) ?_
    case h19 => intro w hSw; go_simp; rw [IntKind.wrap_i64]; omega
    simp only [Act.put, List.setIfInBounds_toArray, List.set_cons_zero, List.set_cons_succ]
    refine wpAnyH_takeL (i := 20) (v := .bool true) rfl (by kernel_rfl) (by kernel_rfl) (by kernel_rfl) (fun _ _ _ h => h) (by rfl) ?h20 (by assumption) ?_
    case h20 => intro w hSw; go_simp; done
    simp only [Act.put, List.setIfInBounds_toArray, List.set_cons_zero, List.set_cons_succ]
    refine wpAnyH_takeL (i := 21) (v := ?v21) rfl (by kernel_rfl) (by kernel_rfl) (by kernel_rfl) (fun _ _ _ h => h) (by rfl) ?h21 (by assumption) ?_
    case h21 => intro w hSw; go_simp <;> with_reducible rfl
    simp only [Act.put, List.setIfInBounds_toArray, List.set_cons_zero, List.set_cons_succ]
    refine wpAnyH_takeL (i := 22) (v := ?v22) rfl (by kernel_rfl) (by kernel_rfl) (by kernel_rfl) (fun _ _ _ h => h) (by rfl) ?h22 (by assumption) ?_
    case h22 => intro w hSw; go_simp <;> with_reducible rfl
    simp only [Act.put, List.setIfInBounds_toArray, List.set_cons_zero, List.set_cons_succ]
    refine wpAnyH_takeL (i := 23) (v := ?v23) rfl (by kernel_rfl) (by kernel_rfl) (by kernel_rfl) (fun _ _ _ h => h) (by rfl) ?h23 (by assumption) ?_
    case h23 => intro w hSw; go_simp <;> with_reducible rfl
    simp only [Act.put, List.setIfInBounds_toArray, List.set_cons_zero, List.set_cons_succ]
    refine wpAnyH_takeL (i := 25) (v := ?v25) rfl (by kernel_rfl) (by kernel_rfl) (by kernel_rfl) (fun _ _ _ h => h) (by rfl) ?h25 (by assumption) ?_
    case h25 => intro w hSw; go_simp <;> with_reducible rfl
    simp only [Act.put, List.setIfInBounds_toArray, List.set_cons_zero, List.set_cons_succ]
    refine allReadyH_oneL (i := 24) (by kernel_rfl) rfl (by rfl) (fun K hK => ?_)
    go_simp
    refine (read_any _ _ _ HF7.out (be_lo _ _) (by rw [be_length]; omega)).mono ?_
    rw [be_more HF.out (Nat.le_refl _)]
    rintro _ y3 ⟨v71, rfl, h71, hb⟩
    have HN7 := Away.mk (h71.ra.num (K := 80) LN.out)
    have hcy3 : Below w.heap.size w y3 := hcy2.trans (hb.mono hcy2.size)
    replace HNU := Away.mk (HNU.out.below hb)
    replace HF7 := Away.mk (HF7.out.below hb)
    clear hb h71
    refine hK.out _ _ (⟨hcy3, CVB.out _ hcy3⟩) (fun hHeld => ?_)
    clear hK K
    refine allReadyH_oneL (i := 26) (by kernel_rfl) rfl (by rfl) (fun K hK => ?_)
    go_simp
    refine (cmp_n (K := 80) (L := 80) _ HN7.out HNU.out (by decide) (by decide)).mono ?_
    rw [cmpI_eq]
    rintro _ y4 ⟨rfl, hb⟩
    have hcy4 : Below w.heap.size w y4 := hcy3.trans (hb.mono hcy3.size)
    replace HNU := Away.mk (HNU.out.below hb)
    replace HF7 := Away.mk (HF7.out.below hb)
    clear hb
    refine hK.out _ _ (⟨hcy4, CVB.out _ hcy4⟩) (fun hHeld => ?_)
    clear hK K
    refine wpAnyH_takeL (i := 27) (v := ?v27) rfl (by kernel_rfl) (by kernel_rfl) (by kernel_rfl) (fun _ _ _ h => h) (by rfl) ?h27 (by assumption) ?_
    case h27 => intro w hSw; go_simp <;> with_reducible rfl
    simp only [Act.put, List.setIfInBounds_toArray, List.set_cons_zero, List.set_cons_succ]
    refine wpAnyH_takeL (i := 28) (v := ?v28) rfl (by kernel_rfl) (by kernel_rfl) (by kernel_rfl) (fun _ _ _ h => h) (by rfl) ?h28 (by assumption) ?_
    case h28 => intro w hSw; go_simp <;> with_reducible rfl
    simp only [Act.put, List.setIfInBounds_toArray, List.set_cons_zero, List.set_cons_succ]
    refine wpAnyH_takeL (i := 29) (v := ?v29) rfl (by kernel_rfl) (by kernel_rfl) (by kernel_rfl) (fun _ _ _ h => h) (by rfl) ?h29 (by assumption) ?_
    case h29 => intro w hSw; go_simp <;> with_reducible rfl
    simp only [Act.put, List.setIfInBounds_toArray, List.set_cons_zero, List.set_cons_succ]
    refine wpAnyH_takeL (i := 30) (v := ?v30) rfl (by kernel_rfl) (by kernel_rfl) (by kernel_rfl) (fun _ _ _ h => h) (by rfl) ?h30 (by assumption) ?_
    case h30 => intro w hSw; go_simp <;> with_reducible rfl
    simp only [Act.put, List.setIfInBounds_toArray, List.set_cons_zero, List.set_cons_succ]
    refine wpAnyH_takeL (i := 31) (v := ?v31) rfl (by kernel_rfl) (by kernel_rfl) (by kernel_rfl) (fun _ _ _ h => h) (by rfl) ?h31 (by assumption) ?_
    case h31 => intro w hSw; go_simp <;> with_reducible rfl
    simp only [Act.put, List.setIfInBounds_toArray, List.set_cons_zero, List.set_cons_succ]
    refine wpAnyH_takeL (i := 32) (v := ?v32) rfl (by kernel_rfl) (by kernel_rfl) (by kernel_rfl) (fun _ _ _ h => h) (by rfl) ?h32 (by assumption) ?_
    case h32 => intro w hSw; go_simp <;> with_reducible rfl
    simp only [Act.put, List.setIfInBounds_toArray, List.set_cons_zero, List.set_cons_succ]
    refine wpAnyH_takeL (i := 33) (v := ?v33) rfl (by kernel_rfl) (by kernel_rfl) (by kernel_rfl) (fun _ _ _ h => h) (by rfl) ?h33 (by assumption) ?_
    case h33 => intro w hSw; go_simp <;> with_reducible rfl
    simp only [Act.put, List.setIfInBounds_toArray, List.set_cons_zero, List.set_cons_succ]
    refine wpAnyH_takeL (i := 34) (v := ?v34) rfl (by kernel_rfl) (by kernel_rfl) (by kernel_rfl) (fun _ _ _ h => h) (by rfl) ?h34 (by assumption) ?_
    case h34 => intro w hSw; go_simp <;> with_reducible rfl
    simp only [Act.put, List.setIfInBounds_toArray, List.set_cons_zero, List.set_cons_succ]
    refine wpAnyH_takeL (i := 35) (v := ?v35) rfl (by kernel_rfl) (by kernel_rfl) (by kernel_rfl) (fun _ _ _ h => h) (by rfl) ?h35 (by assumption) ?_
    case h35 => intro w hSw; go_simp <;> with_reducible rfl
    simp only [Act.put, List.setIfInBounds_toArray, List.set_cons_zero, List.set_cons_succ]
    refine wpAnyH_takeL (i := 36) (v := ?v36) rfl (by kernel_rfl) (by kernel_rfl) (by kernel_rfl) (fun _ _ _ h => h) (by rfl) ?h36 (by assumption) ?_
    case h36 => intro w hSw; go_simp <;> with_reducible rfl
    simp only [Act.put, List.setIfInBounds_toArray, List.set_cons_zero, List.set_cons_succ]
    refine wpAnyH_takeL (i := 37) (v := ?v37) rfl (by kernel_rfl) (by kernel_rfl) (by kernel_rfl) (fun _ _ _ h => h) (by rfl) ?h37 (by assumption) ?_
    case h37 => intro w hSw; go_simp <;> with_reducible rfl
    simp only [Act.put, List.setIfInBounds_toArray, List.set_cons_zero, List.set_cons_succ]
    refine wpAnyH_skipL (i := 38) rfl (by kernel_rfl) (by kernel_rfl) (by kernel_rfl) (fun _ _ _ h => h) (by rfl) (by assumption) ?_
    simp only [Act.put, List.setIfInBounds_toArray, List.set_cons_zero, List.set_cons_succ]
    refine wpAnyH_skipL (i := 39) rfl (by kernel_rfl) (by kernel_rfl) (by kernel_rfl) (fun _ _ _ h => h) (by rfl) (by assumption) ?_
    simp only [Act.put, List.setIfInBounds_toArray, List.set_cons_zero, List.set_cons_succ]
    refine wpAnyH_skipL (i := 40) rfl (by kernel_rfl) (by kernel_rfl) (by kernel_rfl) (fun _ _ _ h => h) (by rfl) (by assumption) ?_
    simp only [Act.put, List.setIfInBounds_toArray, List.set_cons_zero, List.set_cons_succ]
    refine wpAnyH_skipL (i := 41) rfl (by kernel_rfl) (by kernel_rfl) (by kernel_rfl) (fun _ _ _ h => h) (by rfl) (by assumption) ?_
    simp only [Act.put, List.setIfInBounds_toArray, List.set_cons_zero, List.set_cons_succ]
    refine wpAnyH_skipL (i := 42) rfl (by kernel_rfl) (by kernel_rfl) (by kernel_rfl) (fun _ _ _ h => h) (by rfl) (by assumption) ?_
    simp only [Act.put, List.setIfInBounds_toArray, List.set_cons_zero, List.set_cons_succ]
    refine wpAnyH_skipL (i := 43) rfl (by kernel_rfl) (by kernel_rfl) (by kernel_rfl) (fun _ _ _ h => h) (by rfl) (by assumption) ?_
    simp only [Act.put, List.setIfInBounds_toArray, List.set_cons_zero, List.set_cons_succ]
    refine wpAnyH_skipL (i := 44) rfl (by kernel_rfl) (by kernel_rfl) (by kernel_rfl) (fun _ _ _ h => h) (by rfl) (by assumption) ?_
    simp only [Act.put, List.setIfInBounds_toArray, List.set_cons_zero, List.set_cons_succ]
    refine wpAnyH_takeL (i := 45) (v := ?v45) rfl (by kernel_rfl) (by kernel_rfl) (by kernel_rfl) (fun _ _ _ h => h) (by rfl) ?h45 (by assumption) ?_
    case h45 => intro w hSw; go_simp <;> with_reducible rfl
    simp only [Act.put, List.setIfInBounds_toArray, List.set_cons_zero, List.set_cons_succ]
    refine wpAnyH_takeL (i := 46) (v := ?v46) rfl (by kernel_rfl) (by kernel_rfl) (by kernel_rfl) (fun _ _ _ h => h) (by rfl) ?h46 (by assumption) ?_
    case h46 => intro w hSw; go_simp <;> with_reducible rfl
    simp only [Act.put, List.setIfInBounds_toArray, List.set_cons_zero, List.set_cons_succ]
    refine wpAnyH_takeL (i := 47) (v := ?v47) rfl (by kernel_rfl) (by kernel_rfl) (by kernel_rfl) (fun _ _ _ h => h) (by rfl) ?h47 (by assumption) ?_
    case h47 => intro w hSw; go_simp <;> with_reducible rfl
    simp only [Act.put, List.setIfInBounds_toArray, List.set_cons_zero, List.set_cons_succ]
    refine wpAnyH_done (by kernel_rfl) ?_ _
    refine NoPanic.normal ?_
    go_wp2
    go_ret
    exact ⟨rfl, hcy4⟩
  · subst e
    obtain ⟨l1, hl1⟩ : ∃ l1, len0 = l1 + 1 := ⟨len0 - 1, by omega⟩
    obtain ⟨nk, hnk⟩ : ∃ nk, len0 + kk = nk := ⟨_, rfl⟩
    have ek : (len0 : Int) + (kk : Int) = (nk : Int) := by omega
    have el : (len0 : Int) - 1 = (l1 : Int) := by omega
    have HL1 := Away.mk hl1
    have HF : Away (N < 256 ^ nk) := ⟨Nat.lt_of_lt_of_le HN.out (Nat.pow_le_pow_right (by decide) (by omega))⟩
    have hnk2 : nk ≤ 400 := by omega
    have HNK := Away.mk hnk
    clear hnk hfirst hl1
    go_enter Try.func10, Try.ntmps10
    go_wp2_with fail
    refine (HRD.out _ HS.out).mono ?_
    rintro _ w1 ⟨v5, rfl, ⟨xs, hI, hz5, -⟩, hb1⟩
    have hxl : xs.length ≤ 80 := (hI.len (by decide) _).2 LN.out
    have hxp : xs.length ≠ 0 := by
      intro h
      obtain rfl := List.eq_nil_of_length_eq_zero h
      have e0 : N = 0 := hI.1.symm
      have e1 := HSZ.out
      rw [e0, show bl 0 = 0 from rfl] at e1
      omega
    obtain ⟨n5, hm5⟩ : ∃ n5, xs.length = n5 := ⟨_, rfl⟩
    obtain ⟨a5, c5, rfl, _, _⟩ := hz5.shapeC hm5
    obtain ⟨b5, o5, rfl, _, hcx⟩ := hz5.cells (by rw [C_length]; omega)
    obtain ⟨m5, hm6⟩ : ∃ m5, n5 = m5 + 1 := ⟨n5 - 1, by omega⟩
    have hcell := fun x hx => cell_at (w := x) (m := m5) (n := n5) (c := c5) (b := b5) (o := o5) (xs := xs) hx (by omega)
    have hun := hI.last (by decide) (by omega)
    rw [hm5, hm6, Nat.add_sub_cancel] at hun
    generalize xs.getD m5 0 = u at hcell hun
    have hun' : (u : Int) ≠ 0 := by omega
    have hm5l : m5 ≤ 80 := by omega
    have e5 : (n5 : Int) - 1 = (m5 : Int) := by omega
    have hn5l : m5 < n5 := by omega
    have hn5z : (n5 : Int) ≠ 0 := by omega
    have HNU : Away (Num w1 (.slice (some ⟨b5, o5, none⟩) n5 c5) N 80) := ⟨⟨xs, hz5, hI.2.1, hI.1, hxl⟩⟩
    have HCU := Away.mk hz5; have HCF := Away.mk hcell
    have HB := Away.mk hb1
    clear hz5 hcx hI hxl hm5 hm6 hb1 hxp hcell hun
    go_wp2_with fail
    refine (fill_n (K := 80) nk w1 HNU.out (by decide) (by omega) (by have := HSZ.out; have := HNK.out; omega)).mono ?_
    rintro _ w2 ⟨v7, rfl, h7, hb2⟩
    obtain ⟨a7, c7, rfl, _, _⟩ := h7.shapeC (n := nk) (be_length _ _)
    have HF7 := Away.mk h7
    replace HNU := Away.mk (HNU.out.below hb2)
    replace HCU := Away.mk (HCU.out.below hb2)
    replace HB := Away.mk (HB.out.trans (hb2.mono HB.out.size))
    clear h7 hb2
    go_wp2_with fail
    refine (fill_n1 (K := 80) l1 w2 HNU.out (by decide) (by have := HL1.out; omega) (by have := HSZ.out; have := HL1.out; omega)).mono ?_
    rintro _ w3 ⟨rfl, hb3⟩
    replace HNU := Away.mk (HNU.out.below hb3)
    replace HF7 := Away.mk (HF7.out.below hb3)
    replace HCU := Away.mk (HCU.out.below hb3)
    replace HB := Away.mk (HB.out.trans (hb3.mono HB.out.size))
    have hB := HB.out.drew
    have hdr : Below w3.heap.size w3 w3.drew := (Below.refl _ _).drew
    replace HNU := Away.mk (HNU.out.below hdr)
    replace HF7 := Away.mk (HF7.out.below hdr)
    replace HCU := Away.mk (HCU.out.below hdr)
    clear hdr
    clear hb3
    have cvb : ∀ x, Below w.heap.size w x → (convert 24 9 (Value.slice (some ⟨b, off, none⟩) len0 cap0)).run Try.prog x = .ok (.string (strOfNums (bs.map fun (n : Nat) => (n : Int)))) x := fun x hx => str_run8 (HS.out.below hx)
    have CVB := Away.mk cvb
    clear cvb
    go_wp2_with fail
    have HCU0 := HCF.out _ HCU.out
    refine wp_region_noPanic ?_
    refine wp_region_held_drew (S := fun w' => Below w.heap.size w w' ∧ (convert 24 9 (Value.slice (some ⟨b, off, none⟩) len0 cap0)).run Try.prog w' = .ok (.string (strOfNums (bs.map fun (n : Nat) => (n : Int)))) w' ∧ w'.cell? ⟨b5, o5 + m5, none⟩ = some (.int .u32 (u : Int))) (by kernel_rfl) (⟨hB, CVB.out _ hB, HCF.out _ HCU.out⟩) (fun hHeld => ?_)
    refine allReadyH_oneL (i := 0) (by kernel_rfl) rfl (by rfl) (fun K hK => ?_)
    go_simp
    refine (alive_true _).mono ?_
    rintro _ y1 ⟨rfl, hb⟩
    have hcy0 := hB
    have hcy1 : Below w.heap.size w y1 := hcy0.trans (hb.mono hcy0.size)
    replace HNU := Away.mk (HNU.out.below hb)
    replace HF7 := Away.mk (HF7.out.below hb)
    replace HCU := Away.mk (HCU.out.below hb)
    clear hb
    refine hK.out _ _ (⟨hcy1, CVB.out _ hcy1, HCF.out _ HCU.out⟩) (fun hHeld => ?_)
    clear hK K
    refine wpAnyH_takeL (i := 1) (v := ?v1q) rfl (by kernel_rfl) (by kernel_rfl) (by kernel_rfl) (fun _ _ _ h => h) (by rfl) ?h1q (by assumption) ?_
    case h1q => intro w hSw; go_simp <;> with_reducible rfl
    simp only [Act.put, List.setIfInBounds_toArray, List.set_cons_zero, List.set_cons_succ]
    refine wpAnyH_takeL (i := 2) (v := ?v2q) rfl (by kernel_rfl) (by kernel_rfl) (by kernel_rfl) (fun _ _ _ h => h) (by rfl) ?h2q (by assumption) ?_
    case h2q => intro w hSw; go_simp <;> with_reducible rfl
    simp only [Act.put, List.setIfInBounds_toArray, List.set_cons_zero, List.set_cons_succ]
    refine wpAnyH_takeL (i := 5) (v := ?v5q) rfl (by kernel_rfl) (by kernel_rfl) (by kernel_rfl) (fun _ _ _ h => h) (by rfl) ?h5q (by assumption) ?_
    case h5q => intro w hSw; go_simp <;> with_reducible rfl
    simp only [Act.put, List.setIfInBounds_toArray, List.set_cons_zero, List.set_cons_succ]
    refine wpAnyH_takeL (i := 6) (v := ?v6q) rfl (by kernel_rfl) (by kernel_rfl) (by kernel_rfl) (fun _ _ _ h => h) (by rfl) ?h6q (by assumption) ?_
    case h6q => intro w hSw; go_simp <;> with_reducible rfl
    simp only [Act.put, List.setIfInBounds_toArray, List.set_cons_zero, List.set_cons_succ]
    refine allReadyH_oneL (i := 3) (by kernel_rfl) rfl (by rfl) (fun K hK => ?_)
    go_simp
    refine (bytes_n (K := 80) _ HNU.out (by decide)).mono ?_
    rintro _ y2 ⟨v50, rfl, h50, hb⟩
    have hcy2 : Below w.heap.size w y2 := hcy1.trans (hb.mono hcy1.size)
    replace HNU := Away.mk (HNU.out.below hb)
    replace HF7 := Away.mk (HF7.out.below hb)
    replace HCU := Away.mk (HCU.out.below hb)
    rw [HSZ.out, HBE.out] at h50
    have cv50 := str_run8 h50
    clear hb h50
    refine hK.out _ _ (⟨hcy2, CVB.out _ hcy2, HCF.out _ HCU.out⟩) (fun hHeld => ?_)
    clear hK K
    refine allReadyH_oneL (i := 4) (by kernel_rfl) rfl (by rfl) (fun K hK => ?_)
    go_simp
    skip
    refine hK.out _ _ (⟨hcy2, CVB.out _ hcy2, HCF.out _ HCU.out⟩) (fun hHeld => ?_)
    clear hK K
    refine wpAnyH_takeL (i := 7) (v := ?v7q) rfl (by kernel_rfl) (by kernel_rfl) (by kernel_rfl) (fun _ _ _ h => h) (by rfl) ?h7q (by assumption) ?_
    case h7q => intro w hSw; go_simp <;> with_reducible rfl
    simp only [Act.put, List.setIfInBounds_toArray, List.set_cons_zero, List.set_cons_succ]
    refine wpAnyH_takeL (i := 8) (v := ?v8q) rfl (by kernel_rfl) (by kernel_rfl) (by kernel_rfl) (fun _ _ _ h => h) (by rfl) ?h8q (by assumption) ?_
    case h8q => intro w hSw; go_simp <;> with_reducible rfl
    simp only [Act.put, List.setIfInBounds_toArray, List.set_cons_zero, List.set_cons_succ]
    refine wpAnyH_takeL (i := 9) (v := ?v9q) rfl (by kernel_rfl) (by kernel_rfl) (by kernel_rfl) (fun _ _ _ h => h) (by rfl) ?h9q (by assumption) ?_
    case h9q => intro w hSw; go_simp <;> with_reducible rfl
    simp only [Act.put, List.setIfInBounds_toArray, List.set_cons_zero, List.set_cons_succ]
    refine wpAnyH_takeL (i := 10) (v := ?v10q) rfl (by kernel_rfl) (by kernel_rfl) (by kernel_rfl) (fun _ _ _ h => h) (by rfl) ?h10q (by assumption) ?_
    case h10q => intro w hSw; go_simp <;> with_reducible rfl
    simp only [Act.put, List.setIfInBounds_toArray, List.set_cons_zero, List.set_cons_succ]
    refine wpAnyH_takeL (i := 11) (v := ?v11q) rfl (by kernel_rfl) (by kernel_rfl) (by kernel_rfl) (fun _ _ _ h => h) (by rfl) ?h11q (by assumption) ?_
    case h11q => intro w hSw; go_simp <;> with_reducible rfl
    simp only [Act.put, List.setIfInBounds_toArray, List.set_cons_zero, List.set_cons_succ]
    refine wpAnyH_takeL (i := 12) (v := ?v12q) rfl (by kernel_rfl) (by kernel_rfl) (by kernel_rfl) (fun _ _ _ h => h) (by rfl) ?h12q (by assumption) ?_
    case h12q => intro w hSw; go_simp <;> with_reducible rfl
    simp only [Act.put, List.setIfInBounds_toArray, List.set_cons_zero, List.set_cons_succ]
    refine wpAnyH_takeL (i := 13) (v := ?v13q) rfl (by kernel_rfl) (by kernel_rfl) (by kernel_rfl) (fun _ _ _ h => h) (by rfl) ?h13q (by assumption) ?_
    case h13q => intro w hSw; go_simp <;> with_reducible rfl
    simp only [Act.put, List.setIfInBounds_toArray, List.set_cons_zero, List.set_cons_succ]
    refine wpAnyH_takeL (i := 14) (v := ?v14q) rfl (by kernel_rfl) (by kernel_rfl) (by kernel_rfl) (fun _ _ _ h => h) (by rfl) ?h14q (by assumption) ?_
    case h14q => intro w hSw; go_simp <;> with_reducible rfl
    simp only [Act.put, List.setIfInBounds_toArray, List.set_cons_zero, List.set_cons_succ]
    refine wpAnyH_takeL (i := 15) (v := ?v15q) rfl (by kernel_rfl) (by kernel_rfl) (by kernel_rfl) (fun _ _ _ h => h) (by rfl) ?h15q (by assumption) ?_
    case h15q => intro w hSw; go_simp <;> with_reducible rfl
    simp only [Act.put, List.setIfInBounds_toArray, List.set_cons_zero, List.set_cons_succ]
    refine wpAnyH_takeL (i := 16) (v := ?v16q) rfl (by kernel_rfl) (by kernel_rfl) (by kernel_rfl) (fun _ _ _ h => h) (by rfl) ?h16q (by assumption) ?_
    case h16q => intro w hSw; go_simp <;> with_reducible rfl
    simp only [Act.put, List.setIfInBounds_toArray, List.set_cons_zero, List.set_cons_succ]
    refine wpAnyH_takeL (i := 17) (v := ?v17q) rfl (by kernel_rfl) (by kernel_rfl) (by kernel_rfl) (fun _ _ _ h => h) (by rfl) ?h17q (by assumption) ?_
    case h17q => intro w hSw; go_simp <;> with_reducible rfl
    simp only [Act.put, List.setIfInBounds_toArray, List.set_cons_zero, List.set_cons_succ]
    refine wpAnyH_takeL (i := 18) (v := ?v18q) rfl (by kernel_rfl) (by kernel_rfl) (by kernel_rfl) (fun _ _ _ h => h) (by rfl) ?h18q (by assumption) ?_
    case h18q => intro w hSw; go_simp <;> with_reducible rfl
    simp only [Act.put, List.setIfInBounds_toArray, List.set_cons_zero, List.set_cons_succ]
    refine wpAnyH_takeL (i := 19) (v := .int .i64 (nk : Int)) rfl (by kernel_rfl) (by kernel_rfl) (by kernel_rfl) (fun _ _ _ h => h) (by rfl) ?h19q (by assumption) ?_
    case h19q => intro w hSw; go_simp; rw [IntKind.wrap_i64]; omega
    simp only [Act.put, List.setIfInBounds_toArray, List.set_cons_zero, List.set_cons_succ]
    refine wpAnyH_takeL (i := 20) (v := .bool true) rfl (by kernel_rfl) (by kernel_rfl) (by kernel_rfl) (fun _ _ _ h => h) (by rfl) ?h20q (by assumption) ?_
    case h20q => intro w hSw; go_simp; done
    simp only [Act.put, List.setIfInBounds_toArray, List.set_cons_zero, List.set_cons_succ]
    refine wpAnyH_takeL (i := 21) (v := ?v21q) rfl (by kernel_rfl) (by kernel_rfl) (by kernel_rfl) (fun _ _ _ h => h) (by rfl) ?h21q (by assumption) ?_
    case h21q => intro w hSw; go_simp <;> with_reducible rfl
    simp only [Act.put, List.setIfInBounds_toArray, List.set_cons_zero, List.set_cons_succ]
    refine wpAnyH_takeL (i := 22) (v := ?v22q) rfl (by kernel_rfl) (by kernel_rfl) (by kernel_rfl) (fun _ _ _ h => h) (by rfl) ?h22q (by assumption) ?_
    case h22q => intro w hSw; go_simp <;> with_reducible rfl
    simp only [Act.put, List.setIfInBounds_toArray, List.set_cons_zero, List.set_cons_succ]
    refine wpAnyH_takeL (i := 23) (v := ?v23q) rfl (by kernel_rfl) (by kernel_rfl) (by kernel_rfl) (fun _ _ _ h => h) (by rfl) ?h23q (by assumption) ?_
    case h23q => intro w hSw; go_simp <;> with_reducible rfl
    simp only [Act.put, List.setIfInBounds_toArray, List.set_cons_zero, List.set_cons_succ]
    refine wpAnyH_takeL (i := 25) (v := ?v25q) rfl (by kernel_rfl) (by kernel_rfl) (by kernel_rfl) (fun _ _ _ h => h) (by rfl) ?h25q (by assumption) ?_
    case h25q => intro w hSw; go_simp <;> with_reducible rfl
    simp only [Act.put, List.setIfInBounds_toArray, List.set_cons_zero, List.set_cons_succ]
    refine allReadyH_oneL (i := 24) (by kernel_rfl) rfl (by rfl) (fun K hK => ?_)
    go_simp
    refine (read_any _ _ _ HF7.out (be_lo _ _) (by rw [be_length]; omega)).mono ?_
    rw [be_more HF.out (Nat.le_refl _)]
    rintro _ y3 ⟨v71, rfl, h71, hb⟩
    have HN7 := Away.mk (h71.ra.num (K := 80) LN.out)
    have hcy3 : Below w.heap.size w y3 := hcy2.trans (hb.mono hcy2.size)
    replace HNU := Away.mk (HNU.out.below hb)
    replace HF7 := Away.mk (HF7.out.below hb)
    replace HCU := Away.mk (HCU.out.below hb)
    clear hb h71
    refine hK.out _ _ (⟨hcy3, CVB.out _ hcy3, HCF.out _ HCU.out⟩) (fun hHeld => ?_)
    clear hK K
    refine allReadyH_oneL (i := 26) (by kernel_rfl) rfl (by rfl) (fun K hK => ?_)
    go_simp
    refine (cmp_n (K := 80) (L := 80) _ HN7.out HNU.out (by decide) (by decide)).mono ?_
    rw [cmpI_eq]
    rintro _ y4 ⟨rfl, hb⟩
    have hcy4 : Below w.heap.size w y4 := hcy3.trans (hb.mono hcy3.size)
    replace HNU := Away.mk (HNU.out.below hb)
    replace HF7 := Away.mk (HF7.out.below hb)
    replace HCU := Away.mk (HCU.out.below hb)
    clear hb
    refine hK.out _ _ (⟨hcy4, CVB.out _ hcy4, HCF.out _ HCU.out⟩) (fun hHeld => ?_)
    clear hK K
    refine wpAnyH_takeL (i := 27) (v := ?v27q) rfl (by kernel_rfl) (by kernel_rfl) (by kernel_rfl) (fun _ _ _ h => h) (by rfl) ?h27q (by assumption) ?_
    case h27q => intro w hSw; go_simp <;> with_reducible rfl
    simp only [Act.put, List.setIfInBounds_toArray, List.set_cons_zero, List.set_cons_succ]
    refine wpAnyH_takeL (i := 28) (v := ?v28q) rfl (by kernel_rfl) (by kernel_rfl) (by kernel_rfl) (fun _ _ _ h => h) (by rfl) ?h28q (by assumption) ?_
    case h28q => intro w hSw; go_simp <;> with_reducible rfl
    simp only [Act.put, List.setIfInBounds_toArray, List.set_cons_zero, List.set_cons_succ]
    refine wpAnyH_takeL (i := 29) (v := ?v29q) rfl (by kernel_rfl) (by kernel_rfl) (by kernel_rfl) (fun _ _ _ h => h) (by rfl) ?h29q (by assumption) ?_
    case h29q => intro w hSw; go_simp <;> with_reducible rfl
    simp only [Act.put, List.setIfInBounds_toArray, List.set_cons_zero, List.set_cons_succ]
    refine wpAnyH_takeL (i := 30) (v := ?v30q) rfl (by kernel_rfl) (by kernel_rfl) (by kernel_rfl) (fun _ _ _ h => h) (by rfl) ?h30q (by assumption) ?_
    case h30q => intro w hSw; go_simp <;> with_reducible rfl
    simp only [Act.put, List.setIfInBounds_toArray, List.set_cons_zero, List.set_cons_succ]
    refine wpAnyH_takeL (i := 31) (v := ?v31q) rfl (by kernel_rfl) (by kernel_rfl) (by kernel_rfl) (fun _ _ _ h => h) (by rfl) ?h31q (by assumption) ?_
    case h31q => intro w hSw; go_simp <;> with_reducible rfl
    simp only [Act.put, List.setIfInBounds_toArray, List.set_cons_zero, List.set_cons_succ]
    refine wpAnyH_takeL (i := 32) (v := ?v32q) rfl (by kernel_rfl) (by kernel_rfl) (by kernel_rfl) (fun _ _ _ h => h) (by rfl) ?h32q (by assumption) ?_
    case h32q => intro w hSw; go_simp <;> with_reducible rfl
    simp only [Act.put, List.setIfInBounds_toArray, List.set_cons_zero, List.set_cons_succ]
    refine wpAnyH_takeL (i := 33) (v := ?v33q) rfl (by kernel_rfl) (by kernel_rfl) (by kernel_rfl) (fun _ _ _ h => h) (by rfl) ?h33q (by assumption) ?_
    case h33q => intro w hSw; go_simp <;> with_reducible rfl
    simp only [Act.put, List.setIfInBounds_toArray, List.set_cons_zero, List.set_cons_succ]
    refine wpAnyH_takeL (i := 34) (v := ?v34q) rfl (by kernel_rfl) (by kernel_rfl) (by kernel_rfl) (fun _ _ _ h => h) (by rfl) ?h34q (by assumption) ?_
    case h34q => intro w hSw; go_simp <;> with_reducible rfl
    simp only [Act.put, List.setIfInBounds_toArray, List.set_cons_zero, List.set_cons_succ]
    refine wpAnyH_takeL (i := 35) (v := ?v35q) rfl (by kernel_rfl) (by kernel_rfl) (by kernel_rfl) (fun _ _ _ h => h) (by rfl) ?h35q (by assumption) ?_
    case h35q => intro w hSw; go_simp <;> with_reducible rfl
    simp only [Act.put, List.setIfInBounds_toArray, List.set_cons_zero, List.set_cons_succ]
    refine wpAnyH_takeL (i := 36) (v := .bool false) rfl (by kernel_rfl) (by kernel_rfl) (by kernel_rfl) (fun _ _ _ h => h) (by rfl) ?h36q (by assumption) ?_
    case h36q => intro w hSw; go_simp; skip; try omega
    simp only [Act.put, List.setIfInBounds_toArray, List.set_cons_zero, List.set_cons_succ]
    refine wpAnyH_takeL (i := 37) (v := ?v37q) rfl (by kernel_rfl) (by kernel_rfl) (by kernel_rfl) (fun _ _ _ h => h) (by rfl) ?h37q (by assumption) ?_
    case h37q => intro w hSw; go_simp <;> with_reducible rfl
    simp only [Act.put, List.setIfInBounds_toArray, List.set_cons_zero, List.set_cons_succ]
    refine wpAnyH_takeL (i := 38) (v := ?v38q) rfl (by kernel_rfl) (by kernel_rfl) (by kernel_rfl) (fun _ _ _ h => h) (by rfl) ?h38q (by assumption) ?_
    case h38q => intro w hSw; go_simp <;> with_reducible rfl
    simp only [Act.put, List.setIfInBounds_toArray, List.set_cons_zero, List.set_cons_succ]
    refine wpAnyH_takeL (i := 39) (v := ?v39q) rfl (by kernel_rfl) (by kernel_rfl) (by kernel_rfl) (fun _ _ _ h => h) (by rfl) ?h39q (by assumption) ?_
    case h39q => intro w hSw; go_simp <;> with_reducible rfl
    simp only [Act.put, List.setIfInBounds_toArray, List.set_cons_zero, List.set_cons_succ]
    refine wpAnyH_takeL (i := 40) (v := ?v40q) rfl (by kernel_rfl) (by kernel_rfl) (by kernel_rfl) (fun _ _ _ h => h) (by rfl) ?h40q (by assumption) ?_
    case h40q => intro w hSw; go_simp <;> with_reducible rfl
    simp only [Act.put, List.setIfInBounds_toArray, List.set_cons_zero, List.set_cons_succ]
    refine wpAnyH_takeL (i := 41) (v := .int .i64 (m5 : Int)) rfl (by kernel_rfl) (by kernel_rfl) (by kernel_rfl) (fun _ _ _ h => h) (by rfl) ?h41q (by assumption) ?_
    case h41q => intro w hSw; go_simp; rw [IntKind.wrap_i64]; omega
    simp only [Act.put, List.setIfInBounds_toArray, List.set_cons_zero, List.set_cons_succ]
    refine wpAnyH_takeL (i := 42) (v := ?v42q) rfl (by kernel_rfl) (by kernel_rfl) (by kernel_rfl) (fun _ _ _ h => h) (by rfl) ?h42q (by assumption) ?_
    case h42q => intro w hSw; go_simp <;> with_reducible rfl
    simp only [Act.put, List.setIfInBounds_toArray, List.set_cons_zero, List.set_cons_succ]
    refine wpAnyH_takeL (i := 43) (v := ?v43q) rfl (by kernel_rfl) (by kernel_rfl) (by kernel_rfl) (fun _ _ _ h => h) (by rfl) ?h43q (by assumption) ?_
    case h43q => intro w hSw; go_simp <;> with_reducible rfl
    simp only [Act.put, List.setIfInBounds_toArray, List.set_cons_zero, List.set_cons_succ]
    refine wpAnyH_takeL (i := 44) (v := .bool true) rfl (by kernel_rfl) (by kernel_rfl) (by kernel_rfl) (fun _ _ _ h => h) (by rfl) ?h44q (by assumption) ?_
    case h44q => intro w hSw; go_simp; first | done | exact hun' | simpa using hun' | omega
    simp only [Act.put, List.setIfInBounds_toArray, List.set_cons_zero, List.set_cons_succ]
    refine wpAnyH_takeL (i := 45) (v := ?v45q) rfl (by kernel_rfl) (by kernel_rfl) (by kernel_rfl) (fun _ _ _ h => h) (by rfl) ?h45q (by assumption) ?_
    case h45q => intro w hSw; go_simp <;> with_reducible rfl
    simp only [Act.put, List.setIfInBounds_toArray, List.set_cons_zero, List.set_cons_succ]
    refine wpAnyH_takeL (i := 46) (v := ?v46q) rfl (by kernel_rfl) (by kernel_rfl) (by kernel_rfl) (fun _ _ _ h => h) (by rfl) ?h46q (by assumption) ?_
    case h46q => intro w hSw; go_simp <;> with_reducible rfl
    simp only [Act.put, List.setIfInBounds_toArray, List.set_cons_zero, List.set_cons_succ]
    refine wpAnyH_takeL (i := 47) (v := ?v47q) rfl (by kernel_rfl) (by kernel_rfl) (by kernel_rfl) (fun _ _ _ h => h) (by rfl) ?h47q (by assumption) ?_
    case h47q => intro w hSw; go_simp <;> with_reducible rfl
    simp only [Act.put, List.setIfInBounds_toArray, List.set_cons_zero, List.set_cons_succ]
    refine wpAnyH_done (by kernel_rfl) ?_ _
    refine NoPanic.normal ?_
    go_wp2
    go_ret
    exact ⟨rfl, hcy4⟩

set_option maxRecDepth 100000 in
theorem lifted (os : Os) (started : os.Started) (H : Type) (enc : TypeId × Value → H) :
    ReturnsInHanded {} Try.checked os 10 .any (Rows.natBackSpec.pre6 enc Try.prog Try.f10 Rows.natBackRow.domain false) (Rows.natBackSpec.post enc Try.prog Try.f10 false true false false) := by
  refine returnsInHanded_of_change (C := Try.checked) own started (by kernel_rfl) Try.func10
    (ChangeSpec.witness6 (enc := enc) (C := Try.checked) false ⟨#[], #[.slice none 0 0, .int .i64 0], []⟩ 8 (by kernel_rfl) (by kernel_rfl) (by kernel_rfl) (by kernel_rfl)) ?_
  intro W base args ds gs before hval0 hW hcnd _
  have hval : ∀ (j : Nat) t v, Try.f10.params[j]? = some t → args[j]? = some v → Value.okWide Try.prog W .any base t v := hval0
  have hW' := hW
  obtain ⟨p, q, hA0, hV, rfl, hfz, hnd⟩ := hW
  have hA : DataW.TrodAll enc Try.prog W 0 (fun _ => true) true Try.f10.params.toList args.toList ds p := hA0
  rw [Try.params10] at hA hval
  obtain ⟨v0, vs0, d0, ds0, p0, q0, hargs, rfl, rfl, h0, r0⟩ := trodAll_cons hA
  obtain ⟨v1, vs1, d1, ds1, p1, q1, rfl, rfl, rfl, h1, r1⟩ := trodAll_cons r0
  obtain ⟨rfl, rfl, rfl⟩ := trodAll_nil r1
  obtain rfl : args = #[v0, v1] := by cases args; simp_all
  obtain ⟨rfl, rfl⟩ := trodVars_none hV
  obtain ⟨a0, len0, cap0, rfl⟩ := okWide_slice Try.underlying24 (hval 0 24 v0 rfl rfl)
  have k0 := h0
  have lt0 : ∀ x ∈ p0, x.block < W.heap.size := by obtain ⟨m, hm⟩ := k0; exact DataW.trod_lt m _ _ _ hm
  obtain ⟨z0, w0⟩ : ∃ zs, IsRow .u8 W a0 len0 cap0 zs := by
    obtain ⟨fuel, hf⟩ := h0
    rcases open_ints Try.underlying24 Try.underlying5 (by kernel_rfl) hf with ⟨hcs, _⟩ | ⟨x, l, c, zs, hcs, _, hl, hm, hz, _, hcell, hwz⟩
    · simp [Value.cells] at hcs
      obtain ⟨rfl, rfl, rfl⟩ := hcs
      exact ⟨[], .inl ⟨rfl, rfl, rfl, rfl⟩⟩
    · simp [Value.cells] at hcs
      obtain ⟨rfl, rfl, rfl⟩ := hcs
      exact ⟨zs, .inr ⟨_, rfl, hl, hm, by simpa using hz, hcell, hwz⟩⟩
  obtain ⟨a1, rfl, rfl, rfl, w1⟩ := open_int Try.underlying3 (hval 1 3 v1 rfl rfl) h1
  clear hA0 hval0
  refine (walk a0 len0 cap0 z0 a1 W w0 w1).mono fun e W' ⟨he, bel⟩ => ?_
  subst he
  exact ⟨_, rfl, _, _, _, [], _, [], hW', trodAll_mk1 (shut_bool Try.underlying4 _), (trodAll_cons_mk (Below.trod laidOut (by kernel_rfl) (of_decide_eq_true (by kernel_rfl)) k0 bel lt0) (trodAll_cons_mk (shut_int Try.underlying3 w1) trodAll_mk0)), rfl, bel.frame _, fun h => by cases h⟩

theorem over : Rows.natBackRow.holds Try.pinned (OpenSpec.ofChange Rows.natBackSpec) :=
  OpenClaim.holds_of_wide 10 Try.f10 rfl rfl rfl rfl rfl rfl rfl ⟨rfl, rfl, rfl, rfl, rfl⟩ rfl rfl rfl rfl rfl (by kernel_rfl) Try.func10 (by kernel_rfl)
    (of_decide_eq_true (by kernel_rfl)) (by unfold Func.isWrapper; first | (rw [if_pos (by decide +kernel)]; kernel_rfl) | (rw [if_neg (by decide +kernel)]; exact ⟨rfl, rfl⟩))
    (fun os started H enc _ => lifted os started H enc)

end Go.Proofs.Ytmbmabgdhdbmeaa.natBack
namespace Go.Proofs.Ytmbmabgdhdbmeaa
/-- The given statement. -/
theorem natBack_proved : Rows.NatBackSaid := natBack.over
end Go.Proofs.Ytmbmabgdhdbmeaa
