/-
  Proved: for every array a of four 64-bit words and every array b of 32 bytes the law ScalarBack returns true, and its arguments read as before. No conditions of ours; the package's variable starts as its initialiser lays it, as the given card ties it.
-/
import Derived.Test.YtdpahahfcdldcaaDoorRows
import Derived.Test.YtdpahahfcdldcaaDoorCards
import Derived.Test.YtdpahahfcdldcaaDoorTie
import Derived.SevenTiedAt
import Derived.Test.YtdpahahfcdldcaaDoorSclJ
import Derived.WalkKit
import Derived.ProofKit
import Derived.OpenShut
import Derived.ShutString
import Derived.ChangeOld
import Derived.Below
namespace Go.Proofs.YtdpahahfcdldcaaDoor.scalarBack
open Go.ChangeShapes Go.WideShapes Go.ChangeAt Go.RowKit
open F
set_option linter.unusedVariables false
set_option maxRecDepth 10000

theorem own : ownKnob Tryd.prog.godebug = none := by kernel_rfl
theorem laidOut : laidOutB Tryd.prog = true := by kernel_rfl

theorem wpAnyH_skipL {P : Program} {L : List Oper} {Q : Exit → Act → World → Prop} {md : Region.Mode} {S : World → Prop} {i : Nat} {oi : Oper} {fuel : Nat} {listed : Array Bool} {a : Act} {w : World} (hi : L[i]? = some oi)
    (hs : Region.noSelect L.toArray = true) (hf : Region.free md L.toArray listed i = true) (hr : (Region.ready md L.toArray listed).contains i = true)
    (hQ : ∀ c a w, Q (.panic c) (a.put oi.dst undef) w → Q (.panic c) a w) (hw : Region.wanted oi (yielded L.toArray a.tmps) = false) (hS : S w)
    (h : wpAnyH P md L.toArray Q S fuel (listed.setIfInBounds i true) (a.put oi.dst undef) w) : wpAnyH P md L.toArray Q S (fuel + 1) listed a w :=
  wpAnyH_take (getL hi) hs hf hr hQ (.inr ⟨hw, rfl⟩) hS h

theorem z64 (w : World) : (zeroValue 31).run Tryd.prog w = .ok (.agg (C .u8 (Z 64)).toArray) w := by kernel_rfl
theorem b64 : Tryd.prog.built 31 [] = some (C .u8 (Z 64)).toArray := by kernel_rfl
theorem i64' : (Tryd.prog.info? 31).map (·.size) = some 64 := by kernel_rfl
theorem val_Z (B n : Nat) : val B (Z n) = 0 := val_zeros n
set_option maxHeartbeats 8000000 in
theorem walk (A : Nat) (hA : A < 115792089237316195423570985008687907853269984665640564039457584007913129639936) (b : List Nat) (hb : Lo 256 b) (lb : b.length = 32) (w : World) (hT : OT w) : Calls Tryd.prog 6 #[.agg (C .u64 (wds A)).toArray, .agg (C .u8 b).toArray] w fun e w' => e = .returned (.bool true) ∧ Below w.heap.size w w' := by
  obtain ⟨w2, h2, r1, r2, hL, hS⟩ := rows2 w 24 30 (C .u64 (wds A)) (C .u8 b)
  have hib : (Tryd.prog.info? 30).map (·.size) = some (C .u8 b).length := by rw [C_length, lb]; exact i32
  have c1 := sbytes_any A hA
  have c5 := sreduce_any A hA
  have lA := mod_Lq_lt A
  have lAT := mod_Lq_T A
  have vA := dig_val (B := 256) (n := 32) (N := A % Lq) (by decide) (by rw [B256_pow]; exact lAT)
  have dlo := dig_lo (B := 256) (by decide) 32 (A % Lq)
  have dle := dig_length 256 32 (A % Lq)
  generalize dig 256 32 (A % Lq) = L at *
  generalize A % Lq = R at *
  have c2 := sread_any L dlo dle
  rw [vA, if_pos lA, decide_eq_true lA] at c2
  have sR := same4 R lAT
  have sb : ∀ w, (Op.equalIn 10000 30 (.agg (C .u8 b).toArray) (.agg (C .u8 b).toArray)).run Tryd.prog w = .ok true w := fun w => by rw [eq32 w b b lb lb]; simp
  have hNl := val_bytes_lt hb lb
  have c3 := sread_any b hb lb
  obtain ⟨V, hV⟩ : ∃ V, b ++ Z 32 = V := ⟨_, rfl⟩
  have lV : V.length = 64 := by rw [← hV, List.length_append, lb, Z_length]
  have HV := Away.mk hV
  have vV : val 256 V = val 256 b := by rw [← hV, val_append, val_Z, Nat.mul_zero, Nat.add_zero]
  have oV : Lo 256 V := by rw [← hV]; exact hb.append (Z_lo (by decide) 32)
  have gV : Away (∀ k, k < 32 → V.getD k 0 = b.getD k 0) := ⟨fun k hk => by rw [← hV]; simp [List.getD, List.getElem?_append_left (show k < b.length by omega)]⟩
  have eV : Away (upto V 64 32 = V) := ⟨by rw [← hV]; unfold upto; rw [List.take_append_of_le_length (by omega), List.take_of_length_le (by omega)]⟩
  have c6 := swide_any V oV lV
  rw [vV] at c6
  have hiV : (Tryd.prog.info? 31).map (·.size) = some (C .u8 V).length := by rw [C_length, lV]; exact i64'
  obtain ⟨D, hD⟩ : ∃ D, (if val 256 b < Lq then val 256 b else 0) = D := ⟨_, rfl⟩
  obtain ⟨ok, hok⟩ : ∃ ok, decide (val 256 b < Lq) = ok := ⟨_, rfl⟩
  have lD : D < 115792089237316195423570985008687907853269984665640564039457584007913129639936 := by rw [← hD]; split <;> omega
  have c7 : ok = true → ∀ (w : World), OT w → Calls Tryd.prog 22 #[.agg (C .u64 (wds D)).toArray] w fun e w' => e = .returned (.agg (C .u8 b).toArray) ∧ Below w.heap.size w w' := fun e w hT => by
    have hlt : val 256 b < Lq := of_decide_eq_true (hok.trans e)
    have := sbytes_any D lD w hT
    rw [← hD, if_pos hlt, Nat.mod_eq_of_lt hlt] at this
    rw [← hD, if_pos hlt]
    have e2 := of_dig (B := 256) (by decide) hb
    rw [lb] at e2
    rw [← e2] at this
    exact this
  have c8 : ok = true → ∀ (w : World), OT w → Calls Tryd.prog 20 #[.agg (C .u8 V).toArray] w fun e w' => e = .returned (.agg (C .u64 (wds D)).toArray) ∧ Below w.heap.size w w' := fun e w hT => by
    have hlt : val 256 b < Lq := of_decide_eq_true (hok.trans e)
    have := c6 w hT
    rw [Nat.mod_eq_of_lt hlt] at this
    rw [← hD, if_pos hlt]
    exact this
  replace c7 := Away.mk c7
  replace c8 := Away.mk c8
  rw [hD, hok] at c3
  have sD := same4 D lD
  clear hD hok vA lA hNl hV vV c6 oV
  go_enter Tryd.func6, Tryd.ntmps6
  go_upto_region 1 with fail
  try simp only [Act.put, List.setIfInBounds_toArray, List.set_cons_zero, List.set_cons_succ, alloc_size, h2]
  clear h2
  go_wp2_with (refine wpList_load_row rfl 24 _ rfl _ rfl _ _ _ _ r1 Tryd.underlying24 rfl (ie4 A) ?_)
  refine (c1 _ (hT.below hL)).mono ?_
  rintro _ wn ⟨rfl, hb⟩
  replace r1 := r1.belowS hb
  replace r2 := r2.belowS hb
  replace hL := hL.trans (hb.mono hL.size)
  clear hb
  go_wp2_with fail
  refine (c2 _ (hT.below hL)).mono ?_
  rintro _ wn ⟨rfl, hb⟩
  replace r1 := r1.belowS hb
  replace r2 := r2.belowS hb
  replace hL := hL.trans (hb.mono hL.size)
  clear hb
  have q0 := Row.new wn 24 (C .u64 (Z 4))
  have nr1 := r1.lt
  replace r1 := r1.alloc (.cells (C .u64 (Z 4)).toArray 24)
  have nr2 := r2.lt
  replace r2 := r2.alloc (.cells (C .u64 (Z 4)).toArray 24)
  replace hL := hL.alloc hL.size (.cells (C .u64 (Z 4)).toArray 24)
  generalize hg : wn.heap.size = g1 at *
  go_upto_region 2 with (first | refine wpList_alloc_row rfl 24 rfl _ z4 ?_ | (refine wpList_store_R rfl 24 _ _ rfl _ (C .u64 (wds R)) (by rw [← hg]; rfl) rfl q0 (ie4 _) (ze4 _) (C_allL _ _) ?_; intro w5 q1 hg5 hz5))
  replace r1 := r1.grown hg5 (by simp; omega)
  replace r2 := r2.grown hg5 (by simp; omega)
  replace hL := below_grown hL hg5 (by omega) q0.lt
  try rw [hg]
  clear q0 hg5 hz5 hg
  try simp only [Act.put, List.setIfInBounds_toArray, List.set_cons_zero, List.set_cons_succ]
  have hz := q1.lt
  have n1 := r1.lt
  have n2 := r2.lt
  have q0 := Row.new w5 31 (C .u8 (Z 64))
  replace r1 := r1.alloc (.cells (C .u8 (Z 64)).toArray 31)
  replace r2 := r2.alloc (.cells (C .u8 (Z 64)).toArray 31)
  replace q1 := q1.alloc (.cells (C .u8 (Z 64)).toArray 31)
  replace hL := hL.alloc hL.size (.cells (C .u8 (Z 64)).toArray 31)
  generalize hg : w5.heap.size = g2 at *
  go_upto_region 3 with (first | refine wpList_alloc_row rfl 31 rfl _ z64 ?_ | refine wpList_build_Z rfl 31 rfl _ b64 ?_ | (refine wpList_store_R rfl 31 _ _ rfl _ (C .u8 (Z 64)) (by rw [← hg]; rfl) rfl q0 i64' rfl (C_allL _ _) ?_; intro w6 q3 hg5 hz5))
  replace r1 := r1.grown hg5 (by simp; omega)
  replace r2 := r2.grown hg5 (by simp; omega)
  replace q1 := q1.grown hg5 (by simp; omega)
  replace hL := below_grown hL hg5 (by omega) q0.lt
  try rw [hg]
  clear q0 hg5 hz5 hg
  rw [← upto_zero V 64] at q3
  go_wp2
  go_loopw [8] (fun i wr => ∃ k : Nat, k ≤ 32 ∧ i = .int .i64 k ∧ Row wr w.heap.size 24 (C .u64 (wds A)) ∧ Row wr (w.heap.size + 1) 30 (C .u8 b) ∧ Row wr g1 24 (C .u64 (wds R)) ∧ Row wr g2 31 (C .u8 (upto V 64 k)) ∧ Below w.heap.size w wr) (fun i _ => 32 - (intOf i).toNat)
  case atStart => exact ⟨0, Nat.zero_le _, rfl, r1, r2, q1, q3, hL⟩
  case round =>
    clear r1 r2 q1 q3 hL
    obtain ⟨k, hk, rfl, r1, r2, q1, q3, hL⟩ := hrel
    by_cases hlt : k < 32
    · have cb := r2.cell k
      rw [C_get .u8 (by omega)] at cb
      have cv := q3.cell k
      rw [C_get .u8 (by rw [upto_length lV (by omega)]; omega)] at cv
      have fv := q3.frozen k
      have eb := gV.out k hlt
      have m3 := upto_row (z := ((b.getD k 0 : Nat) : Int)) q3 lV (by omega) (by rw [eb])
      generalize (upto V 64 k).getD k 0 = u at *
      generalize b.getD k 0 = x at *
      have m1 := r1.other (i := k) (.int .u8 (x : Int)) (show w.heap.size ≠ g2 by omega)
      have m2 := r2.other (i := k) (.int .u8 (x : Int)) (show w.heap.size + 1 ≠ g2 by omega)
      have m4 := q1.other (i := k) (.int .u8 (x : Int)) (show g1 ≠ g2 by omega)
      have mL := hL.setCell (p := ⟨g2, k, none⟩) (by simp; omega) (.int .u8 (x : Int))
      have bk : (k : Int) < 32 := by omega
      have bk64 : (k : Int) < 64 := by omega
      clear eb r1 r2 q1 q3 hL
      go_wp2
      go_roundw
      case rel => exact ⟨k + 1, by omega, by go_num, m1, m2, m4, m3, mL⟩
      case measure => simp [intOf]; omega
    · have HK : Away (k = 32) := ⟨by omega⟩
      have dk : decide ((k : Int) < 32) = false := decide_eq_false (by omega)
      rw [HK.out, eV.out] at q3
      clear hlt hk gV eV hz n1 n2
      go_wp2_with (refine wpList_load_row rfl 30 _ rfl _ rfl _ _ _ _ r2 Tryd.underlying30 rfl hib ?_)
      refine (c3 _ (hT.below hL)).mono ?_
      rintro _ wn ⟨rfl, hb⟩
      replace r1 := r1.belowS hb
      replace r2 := r2.belowS hb
      replace q1 := q1.belowS hb
      replace q3 := q3.belowS hb
      replace hL := hL.trans (hb.mono hL.size)
      clear hb
      have q0 := Row.new wn 24 (C .u64 (Z 4))
      have nr1 := r1.lt
      replace r1 := r1.alloc (.cells (C .u64 (Z 4)).toArray 24)
      have nr2 := r2.lt
      replace r2 := r2.alloc (.cells (C .u64 (Z 4)).toArray 24)
      have nq1 := q1.lt
      replace q1 := q1.alloc (.cells (C .u64 (Z 4)).toArray 24)
      have nq3 := q3.lt
      replace q3 := q3.alloc (.cells (C .u64 (Z 4)).toArray 24)
      replace hL := hL.alloc hL.size (.cells (C .u64 (Z 4)).toArray 24)
      generalize hg : wn.heap.size = g3 at *
      go_upto_region 8 with (first | refine wpList_alloc_row rfl 24 rfl _ z4 ?_ | (refine wpList_store_R rfl 24 _ _ rfl _ (C .u64 (wds D)) (by rw [← hg]; rfl) rfl q0 (ie4 _) (ze4 _) (C_allL _ _) ?_; intro w5 q4 hg5 hz5))
      replace r1 := r1.grown hg5 (by simp; omega)
      replace r2 := r2.grown hg5 (by simp; omega)
      replace q1 := q1.grown hg5 (by simp; omega)
      replace q3 := q3.grown hg5 (by simp; omega)
      replace hL := below_grown hL hg5 (by omega) q0.lt
      try rw [hg]
      clear q0 hg5 hz5 hg
      try simp only [Act.put, List.setIfInBounds_toArray, List.set_cons_zero, List.set_cons_succ]
      cases ok
      · replace r1 := r1.drew
        replace r2 := r2.drew
        replace q1 := q1.drew
        replace q3 := q3.drew
        replace q4 := q4.drew
        replace hL := below_drawn hL
        refine wp_region_noPanic ?_
        refine wp_region_held_drew (S := fun w' => Row w' w.heap.size 24 (C .u64 (wds A)) ∧ Row w' (w.heap.size + 1) 30 (C .u8 b) ∧ Row w' g1 24 (C .u64 (wds R)) ∧ Row w' g2 31 (C .u8 V) ∧ Row w' g3 24 (C .u64 (wds D))) (by kernel_rfl) ⟨r1, r2, q1, q3, q4⟩ (fun hHeld => ?_)
        refine allReadyH_oneL (i := 0) (by kernel_rfl) rfl (by rfl) (fun K hK => ?_)
        go_simp
        refine (alive12_true _ (hT.below hL)).mono ?_
        rintro _ wn ⟨rfl, hb⟩
        replace r1 := r1.belowS hb
        replace r2 := r2.belowS hb
        replace q1 := q1.belowS hb
        replace q3 := q3.belowS hb
        replace q4 := q4.belowS hb
        replace hL := hL.trans (hb.mono hL.size)
        clear hb
        refine hK.out _ _ ⟨r1, r2, q1, q3, q4⟩ (fun hHeld => ?_)
        clear hK K
        refine wpAnyH_takeL (i := 1) (v := ?v1f) rfl (by kernel_rfl) (by kernel_rfl) (by kernel_rfl) (fun _ _ _ h => h) (by rfl) ?h1f (by assumption) ?_
        case h1f => intro w hSw; go_simp <;> with_reducible rfl
        simp only [Act.put, List.setIfInBounds_toArray, List.set_cons_zero, List.set_cons_succ]
        refine wpAnyH_takeL (i := 2) (v := ?v2f) rfl (by kernel_rfl) (by kernel_rfl) (by kernel_rfl) (fun _ _ _ h => h) (by rfl) ?h2f (by assumption) ?_
        case h2f => intro w hSw; go_simp <;> with_reducible rfl
        simp only [Act.put, List.setIfInBounds_toArray, List.set_cons_zero, List.set_cons_succ]
        refine wpAnyH_takeL (i := 3) (v := ?v3f) rfl (by kernel_rfl) (by kernel_rfl) (by kernel_rfl) (fun _ _ _ h => h) (by rfl) ?h3f (by assumption) ?_
        case h3f => intro w hSw; go_simp <;> with_reducible rfl
        simp only [Act.put, List.setIfInBounds_toArray, List.set_cons_zero, List.set_cons_succ]
        refine wpAnyH_takeL (i := 4) (v := ?v4f) rfl (by kernel_rfl) (by kernel_rfl) (by kernel_rfl) (fun _ _ _ h => h) (by rfl) ?h4f (by assumption) ?_
        case h4f => intro w hSw; go_simp <;> with_reducible rfl
        simp only [Act.put, List.setIfInBounds_toArray, List.set_cons_zero, List.set_cons_succ]
        refine wpAnyH_takeL (i := 5) (v := (.agg (C .u64 (wds R)).toArray)) rfl (by kernel_rfl) (by kernel_rfl) (by kernel_rfl) (fun _ _ _ h => h) (by rfl) ?h5f (by assumption) ?_
        case h5f => intro w hSw; exact exec_load_R 24 _ rfl rfl hSw.2.2.1 Tryd.underlying24 (ie4 R)
        simp only [Act.put, List.setIfInBounds_toArray, List.set_cons_zero, List.set_cons_succ]
        refine wpAnyH_takeL (i := 6) (v := (.agg (C .u64 (wds A)).toArray)) rfl (by kernel_rfl) (by kernel_rfl) (by kernel_rfl) (fun _ _ _ h => h) (by rfl) ?h6f (by assumption) ?_
        case h6f => intro w hSw; exact exec_load_R 24 _ rfl rfl hSw.1 Tryd.underlying24 (ie4 A)
        simp only [Act.put, List.setIfInBounds_toArray, List.set_cons_zero, List.set_cons_succ]
        refine allReadyH_oneL (i := 7) (by kernel_rfl) rfl (by rfl) (fun K hK => ?_)
        go_simp
        refine (c5 _ (hT.below hL)).mono ?_
        rintro _ wn ⟨rfl, hb⟩
        replace r1 := r1.belowS hb
        replace r2 := r2.belowS hb
        replace q1 := q1.belowS hb
        replace q3 := q3.belowS hb
        replace q4 := q4.belowS hb
        replace hL := hL.trans (hb.mono hL.size)
        clear hb
        refine hK.out _ _ ⟨r1, r2, q1, q3, q4⟩ (fun hHeld => ?_)
        clear hK K
        refine wpAnyH_takeL (i := 8) (v := ?v8f) rfl (by kernel_rfl) (by kernel_rfl) (by kernel_rfl) (fun _ _ _ h => h) (by rfl) ?h8f (by assumption) ?_
        case h8f => intro w hSw; go_simp <;> with_reducible rfl
        simp only [Act.put, List.setIfInBounds_toArray, List.set_cons_zero, List.set_cons_succ]
        refine wpAnyH_takeL (i := 9) (v := ?v9f) rfl (by kernel_rfl) (by kernel_rfl) (by kernel_rfl) (fun _ _ _ h => h) (by rfl) ?h9f (by assumption) ?_
        case h9f => intro w hSw; go_simp <;> with_reducible rfl
        simp only [Act.put, List.setIfInBounds_toArray, List.set_cons_zero, List.set_cons_succ]
        refine wpAnyH_takeL (i := 10) (v := ?v10f) rfl (by kernel_rfl) (by kernel_rfl) (by kernel_rfl) (fun _ _ _ h => h) (by rfl) ?h10f (by assumption) ?_
        case h10f => intro w hSw; go_simp <;> with_reducible rfl
        simp only [Act.put, List.setIfInBounds_toArray, List.set_cons_zero, List.set_cons_succ]
        refine wpAnyH_takeL (i := 11) (v := ?v11f) rfl (by kernel_rfl) (by kernel_rfl) (by kernel_rfl) (fun _ _ _ h => h) (by rfl) ?h11f (by assumption) ?_
        case h11f => intro w hSw; go_simp <;> with_reducible rfl
        simp only [Act.put, List.setIfInBounds_toArray, List.set_cons_zero, List.set_cons_succ]
        refine wpAnyH_takeL (i := 12) (v := ?v12f) rfl (by kernel_rfl) (by kernel_rfl) (by kernel_rfl) (fun _ _ _ h => h) (by rfl) ?h12f (by assumption) ?_
        case h12f => intro w hSw; go_simp <;> with_reducible rfl
        simp only [Act.put, List.setIfInBounds_toArray, List.set_cons_zero, List.set_cons_succ]
        refine wpAnyH_takeL (i := 13) (v := ?v13f) rfl (by kernel_rfl) (by kernel_rfl) (by kernel_rfl) (fun _ _ _ h => h) (by rfl) ?h13f (by assumption) ?_
        case h13f => intro w hSw; go_simp <;> with_reducible rfl
        simp only [Act.put, List.setIfInBounds_toArray, List.set_cons_zero, List.set_cons_succ]
        refine wpAnyH_skipL (i := 14) rfl (by kernel_rfl) (by kernel_rfl) (by kernel_rfl) (fun _ _ _ h => h) (by rfl) (by assumption) ?_
        simp only [Act.put, List.setIfInBounds_toArray, List.set_cons_zero, List.set_cons_succ]
        refine wpAnyH_skipL (i := 15) rfl (by kernel_rfl) (by kernel_rfl) (by kernel_rfl) (fun _ _ _ h => h) (by rfl) (by assumption) ?_
        simp only [Act.put, List.setIfInBounds_toArray, List.set_cons_zero, List.set_cons_succ]
        refine wpAnyH_skipL (i := 16) rfl (by kernel_rfl) (by kernel_rfl) (by kernel_rfl) (fun _ _ _ h => h) (by rfl) (by assumption) ?_
        simp only [Act.put, List.setIfInBounds_toArray, List.set_cons_zero, List.set_cons_succ]
        refine wpAnyH_skipL (i := 17) rfl (by kernel_rfl) (by kernel_rfl) (by kernel_rfl) (fun _ _ _ h => h) (by rfl) (by assumption) ?_
        simp only [Act.put, List.setIfInBounds_toArray, List.set_cons_zero, List.set_cons_succ]
        refine wpAnyH_skipL (i := 18) rfl (by kernel_rfl) (by kernel_rfl) (by kernel_rfl) (fun _ _ _ h => h) (by rfl) (by assumption) ?_
        simp only [Act.put, List.setIfInBounds_toArray, List.set_cons_zero, List.set_cons_succ]
        refine wpAnyH_skipL (i := 19) rfl (by kernel_rfl) (by kernel_rfl) (by kernel_rfl) (fun _ _ _ h => h) (by rfl) (by assumption) ?_
        simp only [Act.put, List.setIfInBounds_toArray, List.set_cons_zero, List.set_cons_succ]
        refine wpAnyH_skipL (i := 20) rfl (by kernel_rfl) (by kernel_rfl) (by kernel_rfl) (fun _ _ _ h => h) (by rfl) (by assumption) ?_
        simp only [Act.put, List.setIfInBounds_toArray, List.set_cons_zero, List.set_cons_succ]
        refine wpAnyH_skipL (i := 21) rfl (by kernel_rfl) (by kernel_rfl) (by kernel_rfl) (fun _ _ _ h => h) (by rfl) (by assumption) ?_
        simp only [Act.put, List.setIfInBounds_toArray, List.set_cons_zero, List.set_cons_succ]
        refine wpAnyH_skipL (i := 22) rfl (by kernel_rfl) (by kernel_rfl) (by kernel_rfl) (fun _ _ _ h => h) (by rfl) (by assumption) ?_
        simp only [Act.put, List.setIfInBounds_toArray, List.set_cons_zero, List.set_cons_succ]
        refine wpAnyH_skipL (i := 23) rfl (by kernel_rfl) (by kernel_rfl) (by kernel_rfl) (fun _ _ _ h => h) (by rfl) (by assumption) ?_
        simp only [Act.put, List.setIfInBounds_toArray, List.set_cons_zero, List.set_cons_succ]
        refine wpAnyH_takeL (i := 24) (v := ?v24f) rfl (by kernel_rfl) (by kernel_rfl) (by kernel_rfl) (fun _ _ _ h => h) (by rfl) ?h24f (by assumption) ?_
        case h24f => intro w hSw; go_simp <;> with_reducible rfl
        simp only [Act.put, List.setIfInBounds_toArray, List.set_cons_zero, List.set_cons_succ]
        refine wpAnyH_takeL (i := 25) (v := ?v25f) rfl (by kernel_rfl) (by kernel_rfl) (by kernel_rfl) (fun _ _ _ h => h) (by rfl) ?h25f (by assumption) ?_
        case h25f => intro w hSw; go_simp <;> with_reducible rfl
        simp only [Act.put, List.setIfInBounds_toArray, List.set_cons_zero, List.set_cons_succ]
        refine wpAnyH_takeL (i := 26) (v := ?v26f) rfl (by kernel_rfl) (by kernel_rfl) (by kernel_rfl) (fun _ _ _ h => h) (by rfl) ?h26f (by assumption) ?_
        case h26f => intro w hSw; go_simp <;> with_reducible rfl
        simp only [Act.put, List.setIfInBounds_toArray, List.set_cons_zero, List.set_cons_succ]
        refine wpAnyH_done (by kernel_rfl) ?_ _
        refine NoPanic.normal ?_
        go_wp2
        go_ret
        exact ⟨rfl, hL⟩
      · replace r1 := r1.drew
        replace r2 := r2.drew
        replace q1 := q1.drew
        replace q3 := q3.drew
        replace q4 := q4.drew
        replace hL := below_drawn hL
        refine wp_region_noPanic ?_
        refine wp_region_held_drew (S := fun w' => Row w' w.heap.size 24 (C .u64 (wds A)) ∧ Row w' (w.heap.size + 1) 30 (C .u8 b) ∧ Row w' g1 24 (C .u64 (wds R)) ∧ Row w' g2 31 (C .u8 V) ∧ Row w' g3 24 (C .u64 (wds D))) (by kernel_rfl) ⟨r1, r2, q1, q3, q4⟩ (fun hHeld => ?_)
        refine allReadyH_oneL (i := 0) (by kernel_rfl) rfl (by rfl) (fun K hK => ?_)
        go_simp
        refine (alive12_true _ (hT.below hL)).mono ?_
        rintro _ wn ⟨rfl, hb⟩
        replace r1 := r1.belowS hb
        replace r2 := r2.belowS hb
        replace q1 := q1.belowS hb
        replace q3 := q3.belowS hb
        replace q4 := q4.belowS hb
        replace hL := hL.trans (hb.mono hL.size)
        clear hb
        refine hK.out _ _ ⟨r1, r2, q1, q3, q4⟩ (fun hHeld => ?_)
        clear hK K
        refine wpAnyH_takeL (i := 1) (v := ?v1t) rfl (by kernel_rfl) (by kernel_rfl) (by kernel_rfl) (fun _ _ _ h => h) (by rfl) ?h1t (by assumption) ?_
        case h1t => intro w hSw; go_simp <;> with_reducible rfl
        simp only [Act.put, List.setIfInBounds_toArray, List.set_cons_zero, List.set_cons_succ]
        refine wpAnyH_takeL (i := 2) (v := ?v2t) rfl (by kernel_rfl) (by kernel_rfl) (by kernel_rfl) (fun _ _ _ h => h) (by rfl) ?h2t (by assumption) ?_
        case h2t => intro w hSw; go_simp <;> with_reducible rfl
        simp only [Act.put, List.setIfInBounds_toArray, List.set_cons_zero, List.set_cons_succ]
        refine wpAnyH_takeL (i := 3) (v := ?v3t) rfl (by kernel_rfl) (by kernel_rfl) (by kernel_rfl) (fun _ _ _ h => h) (by rfl) ?h3t (by assumption) ?_
        case h3t => intro w hSw; go_simp <;> with_reducible rfl
        simp only [Act.put, List.setIfInBounds_toArray, List.set_cons_zero, List.set_cons_succ]
        refine wpAnyH_takeL (i := 4) (v := ?v4t) rfl (by kernel_rfl) (by kernel_rfl) (by kernel_rfl) (fun _ _ _ h => h) (by rfl) ?h4t (by assumption) ?_
        case h4t => intro w hSw; go_simp <;> with_reducible rfl
        simp only [Act.put, List.setIfInBounds_toArray, List.set_cons_zero, List.set_cons_succ]
        refine wpAnyH_takeL (i := 5) (v := (.agg (C .u64 (wds R)).toArray)) rfl (by kernel_rfl) (by kernel_rfl) (by kernel_rfl) (fun _ _ _ h => h) (by rfl) ?h5t (by assumption) ?_
        case h5t => intro w hSw; exact exec_load_R 24 _ rfl rfl hSw.2.2.1 Tryd.underlying24 (ie4 R)
        simp only [Act.put, List.setIfInBounds_toArray, List.set_cons_zero, List.set_cons_succ]
        refine wpAnyH_takeL (i := 6) (v := (.agg (C .u64 (wds A)).toArray)) rfl (by kernel_rfl) (by kernel_rfl) (by kernel_rfl) (fun _ _ _ h => h) (by rfl) ?h6t (by assumption) ?_
        case h6t => intro w hSw; exact exec_load_R 24 _ rfl rfl hSw.1 Tryd.underlying24 (ie4 A)
        simp only [Act.put, List.setIfInBounds_toArray, List.set_cons_zero, List.set_cons_succ]
        refine allReadyH_oneL (i := 7) (by kernel_rfl) rfl (by rfl) (fun K hK => ?_)
        go_simp
        refine (c5 _ (hT.below hL)).mono ?_
        rintro _ wn ⟨rfl, hb⟩
        replace r1 := r1.belowS hb
        replace r2 := r2.belowS hb
        replace q1 := q1.belowS hb
        replace q3 := q3.belowS hb
        replace q4 := q4.belowS hb
        replace hL := hL.trans (hb.mono hL.size)
        clear hb
        refine hK.out _ _ ⟨r1, r2, q1, q3, q4⟩ (fun hHeld => ?_)
        clear hK K
        refine wpAnyH_takeL (i := 8) (v := ?v8t) rfl (by kernel_rfl) (by kernel_rfl) (by kernel_rfl) (fun _ _ _ h => h) (by rfl) ?h8t (by assumption) ?_
        case h8t => intro w hSw; go_simp <;> with_reducible rfl
        simp only [Act.put, List.setIfInBounds_toArray, List.set_cons_zero, List.set_cons_succ]
        refine wpAnyH_takeL (i := 9) (v := ?v9t) rfl (by kernel_rfl) (by kernel_rfl) (by kernel_rfl) (fun _ _ _ h => h) (by rfl) ?h9t (by assumption) ?_
        case h9t => intro w hSw; go_simp <;> with_reducible rfl
        simp only [Act.put, List.setIfInBounds_toArray, List.set_cons_zero, List.set_cons_succ]
        refine wpAnyH_takeL (i := 10) (v := ?v10t) rfl (by kernel_rfl) (by kernel_rfl) (by kernel_rfl) (fun _ _ _ h => h) (by rfl) ?h10t (by assumption) ?_
        case h10t => intro w hSw; go_simp <;> with_reducible rfl
        simp only [Act.put, List.setIfInBounds_toArray, List.set_cons_zero, List.set_cons_succ]
        refine wpAnyH_takeL (i := 11) (v := ?v11t) rfl (by kernel_rfl) (by kernel_rfl) (by kernel_rfl) (fun _ _ _ h => h) (by rfl) ?h11t (by assumption) ?_
        case h11t => intro w hSw; go_simp <;> with_reducible rfl
        simp only [Act.put, List.setIfInBounds_toArray, List.set_cons_zero, List.set_cons_succ]
        refine wpAnyH_takeL (i := 12) (v := ?v12t) rfl (by kernel_rfl) (by kernel_rfl) (by kernel_rfl) (fun _ _ _ h => h) (by rfl) ?h12t (by assumption) ?_
        case h12t => intro w hSw; go_simp <;> with_reducible rfl
        simp only [Act.put, List.setIfInBounds_toArray, List.set_cons_zero, List.set_cons_succ]
        refine wpAnyH_takeL (i := 13) (v := ?v13t) rfl (by kernel_rfl) (by kernel_rfl) (by kernel_rfl) (fun _ _ _ h => h) (by rfl) ?h13t (by assumption) ?_
        case h13t => intro w hSw; go_simp <;> with_reducible rfl
        simp only [Act.put, List.setIfInBounds_toArray, List.set_cons_zero, List.set_cons_succ]
        refine wpAnyH_takeL (i := 14) (v := (.agg (C .u8 V).toArray)) rfl (by kernel_rfl) (by kernel_rfl) (by kernel_rfl) (fun _ _ _ h => h) (by rfl) ?h14t (by assumption) ?_
        case h14t => intro w hSw; exact exec_load_R 31 _ rfl rfl hSw.2.2.2.1 Tryd.underlying31 hiV
        simp only [Act.put, List.setIfInBounds_toArray, List.set_cons_zero, List.set_cons_succ]
        refine wpAnyH_takeL (i := 16) (v := (.agg (C .u64 (wds D)).toArray)) rfl (by kernel_rfl) (by kernel_rfl) (by kernel_rfl) (fun _ _ _ h => h) (by rfl) ?h16t (by assumption) ?_
        case h16t => intro w hSw; exact exec_load_R 24 _ rfl rfl hSw.2.2.2.2 Tryd.underlying24 (ie4 D)
        simp only [Act.put, List.setIfInBounds_toArray, List.set_cons_zero, List.set_cons_succ]
        refine allReadyH_oneL (i := 15) (by kernel_rfl) rfl (by rfl) (fun K hK => ?_)
        go_simp
        refine (c8.out rfl _ (hT.below hL)).mono ?_
        rintro _ wn ⟨rfl, hb⟩
        replace r1 := r1.belowS hb
        replace r2 := r2.belowS hb
        replace q1 := q1.belowS hb
        replace q3 := q3.belowS hb
        replace q4 := q4.belowS hb
        replace hL := hL.trans (hb.mono hL.size)
        clear hb
        refine hK.out _ _ ⟨r1, r2, q1, q3, q4⟩ (fun hHeld => ?_)
        clear hK K
        refine wpAnyH_takeL (i := 17) (v := ?v17t) rfl (by kernel_rfl) (by kernel_rfl) (by kernel_rfl) (fun _ _ _ h => h) (by rfl) ?h17t (by assumption) ?_
        case h17t => intro w hSw; go_simp <;> with_reducible rfl
        simp only [Act.put, List.setIfInBounds_toArray, List.set_cons_zero, List.set_cons_succ]
        refine wpAnyH_takeL (i := 18) (v := ?v18t) rfl (by kernel_rfl) (by kernel_rfl) (by kernel_rfl) (fun _ _ _ h => h) (by rfl) ?h18t (by assumption) ?_
        case h18t => intro w hSw; go_simp <;> with_reducible rfl
        simp only [Act.put, List.setIfInBounds_toArray, List.set_cons_zero, List.set_cons_succ]
        refine wpAnyH_takeL (i := 19) (v := (.agg (C .u64 (wds D)).toArray)) rfl (by kernel_rfl) (by kernel_rfl) (by kernel_rfl) (fun _ _ _ h => h) (by rfl) ?h19t (by assumption) ?_
        case h19t => intro w hSw; exact exec_load_R 24 _ rfl rfl hSw.2.2.2.2 Tryd.underlying24 (ie4 D)
        simp only [Act.put, List.setIfInBounds_toArray, List.set_cons_zero, List.set_cons_succ]
        refine wpAnyH_takeL (i := 21) (v := (.agg (C .u8 b).toArray)) rfl (by kernel_rfl) (by kernel_rfl) (by kernel_rfl) (fun _ _ _ h => h) (by rfl) ?h21t (by assumption) ?_
        case h21t => intro w hSw; exact exec_load_R 30 _ rfl rfl hSw.2.1 Tryd.underlying30 hib
        simp only [Act.put, List.setIfInBounds_toArray, List.set_cons_zero, List.set_cons_succ]
        refine allReadyH_oneL (i := 20) (by kernel_rfl) rfl (by rfl) (fun K hK => ?_)
        go_simp
        refine (c7.out rfl _ (hT.below hL)).mono ?_
        rintro _ wn ⟨rfl, hb⟩
        replace r1 := r1.belowS hb
        replace r2 := r2.belowS hb
        replace q1 := q1.belowS hb
        replace q3 := q3.belowS hb
        replace q4 := q4.belowS hb
        replace hL := hL.trans (hb.mono hL.size)
        clear hb
        refine hK.out _ _ ⟨r1, r2, q1, q3, q4⟩ (fun hHeld => ?_)
        clear hK K
        refine wpAnyH_takeL (i := 22) (v := ?v22t) rfl (by kernel_rfl) (by kernel_rfl) (by kernel_rfl) (fun _ _ _ h => h) (by rfl) ?h22t (by assumption) ?_
        case h22t => intro w hSw; go_simp <;> with_reducible rfl
        simp only [Act.put, List.setIfInBounds_toArray, List.set_cons_zero, List.set_cons_succ]
        refine wpAnyH_takeL (i := 23) (v := ?v23t) rfl (by kernel_rfl) (by kernel_rfl) (by kernel_rfl) (fun _ _ _ h => h) (by rfl) ?h23t (by assumption) ?_
        case h23t => intro w hSw; go_simp <;> with_reducible rfl
        simp only [Act.put, List.setIfInBounds_toArray, List.set_cons_zero, List.set_cons_succ]
        refine wpAnyH_takeL (i := 24) (v := ?v24t) rfl (by kernel_rfl) (by kernel_rfl) (by kernel_rfl) (fun _ _ _ h => h) (by rfl) ?h24t (by assumption) ?_
        case h24t => intro w hSw; go_simp <;> with_reducible rfl
        simp only [Act.put, List.setIfInBounds_toArray, List.set_cons_zero, List.set_cons_succ]
        refine wpAnyH_takeL (i := 25) (v := ?v25t) rfl (by kernel_rfl) (by kernel_rfl) (by kernel_rfl) (fun _ _ _ h => h) (by rfl) ?h25t (by assumption) ?_
        case h25t => intro w hSw; go_simp <;> with_reducible rfl
        simp only [Act.put, List.setIfInBounds_toArray, List.set_cons_zero, List.set_cons_succ]
        refine wpAnyH_takeL (i := 26) (v := ?v26t) rfl (by kernel_rfl) (by kernel_rfl) (by kernel_rfl) (fun _ _ _ h => h) (by rfl) ?h26t (by assumption) ?_
        case h26t => intro w hSw; go_simp <;> with_reducible rfl
        simp only [Act.put, List.setIfInBounds_toArray, List.set_cons_zero, List.set_cons_succ]
        refine wpAnyH_done (by kernel_rfl) ?_ _
        refine NoPanic.normal ?_
        go_wp2
        go_ret
        exact ⟨rfl, hL⟩

set_option maxRecDepth 100000 in
theorem lifted (os : Os) (started : os.Started) (H : Type) (enc : TypeId × Value → H) :
    ReturnsInHanded {} Tryd.checked os 6 .any (fun w args => (Rows.scalarBackSpec.pre enc Tryd.prog Tryd.f6 [] false w args ∧ laidMetH Tryd.prog F.laid1 w) ∧ sizedMet enc Tryd.prog Tryd.f6 (OpenSpec.ofChange Rows.scalarBackSpec) false w args) (Rows.scalarBackSpec.post enc Tryd.prog Tryd.f6 false true false false) := by
  refine returnsInHanded_of_change_and (C := Tryd.checked) (X := fun w _ => laidMetH Tryd.prog F.laid1 w) (fun _ _ _ hh h => h.of_heap hh) own started (by kernel_rfl) Tryd.func6
    (ChangeSpec.witness_shaped (enc := enc) (C := Tryd.checked) (os := os) (X := fun w _ => laidMetH Tryd.prog F.laid1 w) false (World.doorLaid Tryd.prog 400 os) #[.agg (C .u64 (Z 4)).toArray, .agg (C .u8 (Z 32)).toArray] 8 rfl (World.shaped_of_RefB (by kernel_rfl) (by kernel_rfl)) (by kernel_rfl) (by kernel_rfl) (by kernel_rfl) (F.door_met os _)) ?_
  intro W base args ds gs before hval0 hW _ _ hLd _
  have hval : ∀ (j : Nat) t v, Tryd.f6.params[j]? = some t → args[j]? = some v → Value.okWide Tryd.prog W .any base t v := hval0
  have hW' := hW
  obtain ⟨p, q, hA0, hV, rfl, hfz, hnd⟩ := hW
  have hA : DataW.TrodAll enc Tryd.prog W 0 (fun _ => true) true Tryd.f6.params.toList args.toList ds p := hA0
  rw [Tryd.params6] at hA hval
  obtain ⟨v0, vs0, d0, ds0, p0, q0, hargs, rfl, rfl, h0, r0⟩ := trodAll_cons hA
  obtain ⟨v1, vs1, d1, ds1, p1, q1, rfl, rfl, rfl, h1, r1⟩ := trodAll_cons r0
  obtain ⟨rfl, rfl, rfl⟩ := trodAll_nil r1
  obtain rfl : args = #[v0, v1] := by cases args; simp_all
  obtain ⟨rfl, rfl⟩ := trodVars_none hV
  have k0 := h0
  have lt0 : ∀ x ∈ p0, x.block < W.heap.size := by obtain ⟨m, hm⟩ := k0; exact DataW.trod_lt m _ _ _ hm
  have k1 := h1
  have lt1 : ∀ x ∈ p1, x.block < W.heap.size := by obtain ⟨m, hm⟩ := k1; exact DataW.trod_lt m _ _ _ hm
  obtain ⟨z0, rfl, hl0, hz0⟩ := open_array Tryd.underlying24 Tryd.underlying22 (by kernel_rfl) (by kernel_rfl) (hval 0 24 v0 rfl rfl) h0
  obtain ⟨z1, rfl, hl1, hz1⟩ := open_array Tryd.underlying30 Tryd.underlying5 (by kernel_rfl) (by kernel_rfl) (hval 1 30 v1 rfl rfl) h1
  obtain ⟨n0, b0, e0⟩ := elem_of hl0 hz0
  obtain ⟨n1, e1, l1, b1⟩ := arr_bytes hz1
  rw [e0, e1] at hW' ⊢
  rw [e0] at k0
  rw [e1] at k1
  clear hA0 hval0
  refine (walk n0 b0 n1 b1 (l1.trans hl1) W (F.of_laid hLd)).mono fun e W' ⟨he, bel⟩ => ?_
  subst he
  exact ⟨_, rfl, _, _, _, [], _, [], hW', trodAll_mk1 (shut_bool Tryd.underlying4 _), (trodAll_cons_mk (Below.trod laidOut (by kernel_rfl) (of_decide_eq_true (by kernel_rfl)) k0 bel lt0) (trodAll_cons_mk (Below.trod laidOut (by kernel_rfl) (of_decide_eq_true (by kernel_rfl)) k1 bel lt1) trodAll_mk0)), rfl, bel.frame _, fun h => by cases h⟩

theorem over : Rows.scalarBackRow.holds Tryd.pinned (OpenSpec.ofChange Rows.scalarBackSpec) :=
  OpenClaim.holds_of_wide 6 Tryd.f6 rfl rfl rfl rfl rfl rfl rfl ⟨rfl, rfl, rfl, rfl, rfl⟩ rfl rfl rfl rfl rfl (by kernel_rfl) Tryd.func6 (by kernel_rfl)
    (of_decide_eq_true (by kernel_rfl)) (by unfold Func.isWrapper; first | (rw [if_pos (by decide +kernel)]; kernel_rfl) | (rw [if_neg (by decide +kernel)]; exact ⟨rfl, rfl⟩))
    (fun os started H enc _ => lifted os started H enc)

end Go.Proofs.YtdpahahfcdldcaaDoor.scalarBack
namespace Go.Proofs.YtdpahahfcdldcaaDoor
/-- The given statement. -/
theorem scalarBack_proved : Rows.ScalarBackCardSaid :=
  Claim7.holds_tied_plain_at .later [] [.data] true (true, "12d6fb0e3130be978e13103ef964bff3f25dd06b13ba6b86c892b31fee49d019") false
    scalarBack.over (fun _ h => by cases h) (by kernel_rfl) (fun _ h => by cases h) scalarBack_row_tie rfl ⟨rfl, rfl⟩ (by kernel_rfl) rfl
    (fun f fn hf hfn => by
      obtain rfl : f = 6 := Option.some.inj ((show Tryd.prog.funcNamed "affiant/affiantlaw12.ScalarBack" = some 6 by kernel_rfl).symm.trans hf) |>.symm
      obtain rfl : fn = Tryd.f6 := (Option.some.inj (Tryd.func6.symm.trans hfn)).symm
      exact ⟨by kernel_rfl, fun j t ht => by
        rw [Tryd.params6] at ht
        have hm : t ∈ ([24, 30] : List TypeId) := by simpa using Array.mem_of_getElem? ht
        have hall : (([24, 30] : List TypeId).all fun u => !Tryd.prog.wantsStandIn u) = true := by kernel_rfl
        exact (show Tryd.prog.wantsStandIn t = false by simpa using List.all_eq_true.1 hall t hm)⟩)
    (by kernel_rfl)
end Go.Proofs.YtdpahahfcdldcaaDoor
