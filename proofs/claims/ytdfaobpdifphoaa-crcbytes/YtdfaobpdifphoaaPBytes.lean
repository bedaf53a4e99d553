/-
  Proved: for every 32-bit number c and every three bytes b the law CrcBytes returns true. No conditions.
-/
import Derived.Test.YtdfaobpdifphoaaRows
import Derived.Test.YtdfaobpdifphoaaCrcB
import Derived.WalkKit
import Derived.ProofKit
import Derived.OpenShut
import Derived.ShutString
import Derived.ChangeOld
import Derived.Below
namespace Go.Proofs.Ytdfaobpdifphoaa.crcBytes
open Go.ChangeShapes Go.WideShapes Go.ChangeAt Go.RowKit
open Go.ChangeMaps (open_string shut_string)
set_option linter.unusedVariables false

theorem own : ownKnob Try.prog.godebug = none := by kernel_rfl
theorem laidOut : laidOutB Try.prog = true := by kernel_rfl

/-- What is known of a number: its three bytes, by either, and what they are read as. -/
theorem ofSum (c : Nat) (hc : c < 4294967296) : ∃ (h m l : Int) (k : Nat),
    (∀ w, Calls Try.prog 12 #[.int .u32 c] w fun e w' => e = .returned (three h m l) ∧ Below w.heap.size w w') ∧
    (∀ w, Calls Try.prog 13 #[.int .u32 c] w fun e w' => e = .returned (three h m l) ∧ Below w.heap.size w w') ∧
    (∀ w, Calls Try.prog 14 #[three h m l] w fun e w' => e = .returned (.int .u32 k) ∧ Below w.heap.size w w') ∧ bits .and .u32 (c : Int) 16777215 = (k : Int) := by
  refine ⟨hi c, mid c, lo c, c % 16777216, fun w => bytes_any c hc w, fun w => refbytes_any c hc w, fun w => ?_, and_byte c hc⟩
  refine (read_any (hi c) (mid c) (lo c) ?_ ?_ ?_ w).mono ?_
  · unfold hi; omega
  · unfold mid; omega
  · unfold lo; omega
  · rintro e w' ⟨rfl, hb⟩
    exact ⟨ret_int (by unfold hi mid lo; omega), hb⟩
/-- What is known of three bytes: what they are read as, by either, and its bytes. -/
theorem ofBytes (x y z : Int) (hx : 0 ≤ x ∧ x ≤ 255) (hy : 0 ≤ y ∧ y ≤ 255) (hz : 0 ≤ z ∧ z ≤ 255) : ∃ n : Nat,
    (∀ w, Calls Try.prog 14 #[three x y z] w fun e w' => e = .returned (.int .u32 n) ∧ Below w.heap.size w w') ∧
    (∀ w, Calls Try.prog 15 #[three x y z] w fun e w' => e = .returned (.int .u32 n) ∧ Below w.heap.size w w') ∧
    (∀ w, Calls Try.prog 12 #[.int .u32 n] w fun e w' => e = .returned (three x y z) ∧ Below w.heap.size w w') := by
  obtain ⟨n, hn⟩ := Int.eq_ofNat_of_zero_le (show 0 ≤ x * 65536 + y * 256 + z by omega)
  refine ⟨n, fun w => ?_, fun w => ?_, fun w => ?_⟩
  · have := read_any x y z hx hy hz w
    rwa [hn] at this
  · have := refread_any x y z hx hy hz w
    rwa [hn] at this
  · have := bytes_any n (by omega) w
    rwa [show hi n = x by unfold hi; omega, show mid n = y by unfold mid; omega, show lo n = z by unfold lo; omega] at this
/-- What holds of every world on the way. -/
abbrev Holds (w : World) (x y z : Int) (w' : World) : Prop := Below w.heap.size w w' ∧ w'.cell? ⟨w.heap.size, 0, none⟩ = some (.int .u8 x) ∧ w'.cell? ⟨w.heap.size, 1, none⟩ = some (.int .u8 y) ∧ w'.cell? ⟨w.heap.size, 2, none⟩ = some (.int .u8 z)
theorem held_on {w w1 w2 : World} {x y z : Int} (h : Holds w x y z w1) (hb : Below w1.heap.size w1 w2) : Holds w x y z w2 := by
  obtain ⟨h1, h2, h3, h4⟩ := h
  have hl : w.heap.size < w1.heap.size := World.block_lt_of_cell? w1 ⟨w.heap.size, 0, none⟩ h2
  exact ⟨h1.trans (hb.mono h1.size), (hb.cell (p := ⟨w.heap.size, 0, none⟩) hl).trans h2, (hb.cell (p := ⟨w.heap.size, 1, none⟩) hl).trans h3, (hb.cell (p := ⟨w.heap.size, 2, none⟩) hl).trans h4⟩
set_option maxHeartbeats 2000000 in
/-- The walk: the law returns true and writes nothing that was there. -/
theorem walk (a0 : Int) (x y z : Int) (w : World) (w0 : (Lit.int .u32 a0).wf = true) (hx : 0 ≤ x ∧ x ≤ 255) (hy : 0 ≤ y ∧ y ≤ 255) (hz : 0 ≤ z ∧ z ≤ 255) :
    Calls Try.prog 4 #[.int .u32 a0, three x y z] w fun e w' => e = .returned (.bool true) ∧ Below w.heap.size w w' := by
  obtain ⟨c, rfl, hc⟩ := nat_u32 w0
  clear w0
  obtain ⟨h, m, l, k, hB, hR, hQ, hand⟩ := ofSum c hc
  obtain ⟨n, hN, hM, hO⟩ := ofBytes x y z hx hy hz
  have hA : Below w.heap.size w (w.alloc (.cells #[.int .u8 x, .int .u8 y, .int .u8 z] 28)) := (Below.refl _ _).alloc (Nat.le_refl _) _
  have hc0 : Holds w x y z (w.alloc (.cells #[.int .u8 x, .int .u8 y, .int .u8 z] 28)).drew := ⟨hA.drew, by simp, by simp, by simp⟩
  have e1 : ∀ w, (Op.equalIn 10000 28 (three h m l) (three h m l)).run Try.prog w = .ok true w := fun w => by rw [eq_three]; simp
  have e2 : ∀ w, (Op.equalIn 10000 28 (three x y z) (three x y z)).run Try.prog w = .ok true w := fun w => by rw [eq_three]; simp
  clear hx hy hz hc hA
  go_enter Try.func4, Try.ntmps4
  go_wp2
  refine wp_region_noPanic ?_
  refine wp_region_held_drew (S := Holds w x y z) (by kernel_rfl) (hc0) (fun hHeld => ?_)
  refine allReadyH_oneL (i := 0) (by kernel_rfl) rfl (by rfl) (fun K hK => ?_)
  go_simp
  refine (alive_true _).mono ?_
  rintro e w1 ⟨rfl, hb1⟩
  have hc1 := held_on hc0 hb1
  clear hb1 hc0
  refine hK.out _ _ (hc1) (fun hHeld => ?_)
  clear hK K
  refine wpAnyH_takeL (i := 1) (v := ?v1) rfl (by kernel_rfl) (by kernel_rfl) (by kernel_rfl) (fun _ _ _ h => h) (by rfl) ?h1 (by assumption) ?_
  case h1 => intro w hSw; go_simp <;> with_reducible rfl
  simp only [Act.put, List.setIfInBounds_toArray, List.set_cons_zero, List.set_cons_succ]
  refine wpAnyH_takeL (i := 2) (v := ?v2) rfl (by kernel_rfl) (by kernel_rfl) (by kernel_rfl) (fun _ _ _ h => h) (by rfl) ?h2 (by assumption) ?_
  case h2 => intro w hSw; go_simp <;> with_reducible rfl
  simp only [Act.put, List.setIfInBounds_toArray, List.set_cons_zero, List.set_cons_succ]
  refine wpAnyH_takeL (i := 4) (v := ?v4) rfl (by kernel_rfl) (by kernel_rfl) (by kernel_rfl) (fun _ _ _ h => h) (by rfl) ?h4 (by assumption) ?_
  case h4 => intro w hSw; go_simp <;> with_reducible rfl
  simp only [Act.put, List.setIfInBounds_toArray, List.set_cons_zero, List.set_cons_succ]
  refine allReadyH_oneL (i := 3) (by kernel_rfl) rfl (by rfl) (fun K hK => ?_)
  go_simp
  refine (hB _).mono ?_
  rintro e w2 ⟨rfl, hb2⟩
  have hc2 := held_on hc1 hb2
  clear hb2 hc1
  refine hK.out _ _ (hc2) (fun hHeld => ?_)
  clear hK K
  refine allReadyH_oneL (i := 5) (by kernel_rfl) rfl (by rfl) (fun K hK => ?_)
  go_simp
  refine (hR _).mono ?_
  rintro e w3 ⟨rfl, hb3⟩
  have hc3 := held_on hc2 hb3
  clear hb3 hc2
  refine hK.out _ _ (hc3) (fun hHeld => ?_)
  clear hK K
  refine wpAnyH_takeL (i := 6) (v := ?v6) rfl (by kernel_rfl) (by kernel_rfl) (by kernel_rfl) (fun _ _ _ h => h) (by rfl) ?h6 (by assumption) ?_
  case h6 => intro w hSw; go_simp <;> with_reducible rfl
  simp only [Act.put, List.setIfInBounds_toArray, List.set_cons_zero, List.set_cons_succ]
  refine wpAnyH_takeL (i := 7) (v := ?v7) rfl (by kernel_rfl) (by kernel_rfl) (by kernel_rfl) (fun _ _ _ h => h) (by rfl) ?h7 (by assumption) ?_
  case h7 => intro w hSw; go_simp <;> with_reducible rfl
  simp only [Act.put, List.setIfInBounds_toArray, List.set_cons_zero, List.set_cons_succ]
  refine wpAnyH_takeL (i := 8) (v := ?v8) rfl (by kernel_rfl) (by kernel_rfl) (by kernel_rfl) (fun _ _ _ h => h) (by rfl) ?h8 (by assumption) ?_
  case h8 => intro w hSw; go_simp <;> with_reducible rfl
  simp only [Act.put, List.setIfInBounds_toArray, List.set_cons_zero, List.set_cons_succ]
  refine wpAnyH_takeL (i := 9) (v := ?v9) rfl (by kernel_rfl) (by kernel_rfl) (by kernel_rfl) (fun _ _ _ h => h) (by rfl) ?h9 (by assumption) ?_
  case h9 => intro w hSw; go_simp <;> with_reducible rfl
  simp only [Act.put, List.setIfInBounds_toArray, List.set_cons_zero, List.set_cons_succ]
  refine wpAnyH_takeL (i := 11) (v := ?v11) rfl (by kernel_rfl) (by kernel_rfl) (by kernel_rfl) (fun _ _ _ h => h) (by rfl) ?h11 (by assumption) ?_
  case h11 => intro w hSw; go_simp <;> with_reducible rfl
  simp only [Act.put, List.setIfInBounds_toArray, List.set_cons_zero, List.set_cons_succ]
  refine allReadyH_oneL (i := 10) (by kernel_rfl) rfl (by rfl) (fun K hK => ?_)
  go_simp
  refine (hN _).mono ?_
  rintro e w4 ⟨rfl, hb4⟩
  have hc4 := held_on hc3 hb4
  clear hb4 hc3
  refine hK.out _ _ (hc4) (fun hHeld => ?_)
  clear hK K
  refine allReadyH_oneL (i := 12) (by kernel_rfl) rfl (by rfl) (fun K hK => ?_)
  go_simp
  refine (hM _).mono ?_
  rintro e w5 ⟨rfl, hb5⟩
  have hc5 := held_on hc4 hb5
  clear hb5 hc4
  refine hK.out _ _ (hc5) (fun hHeld => ?_)
  clear hK K
  refine wpAnyH_takeL (i := 13) (v := ?v13) rfl (by kernel_rfl) (by kernel_rfl) (by kernel_rfl) (fun _ _ _ h => h) (by rfl) ?h13 (by assumption) ?_
  case h13 => intro w hSw; go_simp <;> with_reducible rfl
  simp only [Act.put, List.setIfInBounds_toArray, List.set_cons_zero, List.set_cons_succ]
  refine wpAnyH_takeL (i := 14) (v := ?v14) rfl (by kernel_rfl) (by kernel_rfl) (by kernel_rfl) (fun _ _ _ h => h) (by rfl) ?h14 (by assumption) ?_
  case h14 => intro w hSw; go_simp <;> with_reducible rfl
  simp only [Act.put, List.setIfInBounds_toArray, List.set_cons_zero, List.set_cons_succ]
  refine wpAnyH_takeL (i := 15) (v := ?v15) rfl (by kernel_rfl) (by kernel_rfl) (by kernel_rfl) (fun _ _ _ h => h) (by rfl) ?h15 (by assumption) ?_
  case h15 => intro w hSw; go_simp <;> with_reducible rfl
  simp only [Act.put, List.setIfInBounds_toArray, List.set_cons_zero, List.set_cons_succ]
  refine wpAnyH_takeL (i := 16) (v := ?v16) rfl (by kernel_rfl) (by kernel_rfl) (by kernel_rfl) (fun _ _ _ h => h) (by rfl) ?h16 (by assumption) ?_
  case h16 => intro w hSw; go_simp <;> with_reducible rfl
  simp only [Act.put, List.setIfInBounds_toArray, List.set_cons_zero, List.set_cons_succ]
  refine wpAnyH_takeL (i := 19) (v := ?v19) rfl (by kernel_rfl) (by kernel_rfl) (by kernel_rfl) (fun _ _ _ h => h) (by rfl) ?h19 (by assumption) ?_
  case h19 => intro w hSw; go_simp <;> with_reducible rfl
  simp only [Act.put, List.setIfInBounds_toArray, List.set_cons_zero, List.set_cons_succ]
  refine allReadyH_oneL (i := 17) (by kernel_rfl) rfl (by rfl) (fun K hK => ?_)
  go_simp
  refine (hN _).mono ?_
  rintro e w6 ⟨rfl, hb6⟩
  have hc6 := held_on hc5 hb6
  clear hb6 hc5
  refine hK.out _ _ (hc6) (fun hHeld => ?_)
  clear hK K
  refine allReadyH_oneL (i := 18) (by kernel_rfl) rfl (by rfl) (fun K hK => ?_)
  go_simp
  refine (hO _).mono ?_
  rintro e w7 ⟨rfl, hb7⟩
  have hc7 := held_on hc6 hb7
  clear hb7 hc6
  refine hK.out _ _ (hc7) (fun hHeld => ?_)
  clear hK K
  refine wpAnyH_takeL (i := 20) (v := ?v20) rfl (by kernel_rfl) (by kernel_rfl) (by kernel_rfl) (fun _ _ _ h => h) (by rfl) ?h20 (by assumption) ?_
  case h20 => intro w hSw; go_simp <;> with_reducible rfl
  simp only [Act.put, List.setIfInBounds_toArray, List.set_cons_zero, List.set_cons_succ]
  refine wpAnyH_takeL (i := 21) (v := ?v21) rfl (by kernel_rfl) (by kernel_rfl) (by kernel_rfl) (fun _ _ _ h => h) (by rfl) ?h21 (by assumption) ?_
  case h21 => intro w hSw; go_simp <;> with_reducible rfl
  simp only [Act.put, List.setIfInBounds_toArray, List.set_cons_zero, List.set_cons_succ]
  refine wpAnyH_takeL (i := 22) (v := ?v22) rfl (by kernel_rfl) (by kernel_rfl) (by kernel_rfl) (fun _ _ _ h => h) (by rfl) ?h22 (by assumption) ?_
  case h22 => intro w hSw; go_simp <;> with_reducible rfl
  simp only [Act.put, List.setIfInBounds_toArray, List.set_cons_zero, List.set_cons_succ]
  refine wpAnyH_takeL (i := 23) (v := ?v23) rfl (by kernel_rfl) (by kernel_rfl) (by kernel_rfl) (fun _ _ _ h => h) (by rfl) ?h23 (by assumption) ?_
  case h23 => intro w hSw; go_simp <;> with_reducible rfl
  simp only [Act.put, List.setIfInBounds_toArray, List.set_cons_zero, List.set_cons_succ]
  refine wpAnyH_takeL (i := 26) (v := ?v26) rfl (by kernel_rfl) (by kernel_rfl) (by kernel_rfl) (fun _ _ _ h => h) (by rfl) ?h26 (by assumption) ?_
  case h26 => intro w hSw; go_simp <;> with_reducible rfl
  simp only [Act.put, List.setIfInBounds_toArray, List.set_cons_zero, List.set_cons_succ]
  refine wpAnyH_takeL (i := 27) (v := ?v27) rfl (by kernel_rfl) (by kernel_rfl) (by kernel_rfl) (fun _ _ _ h => h) (by rfl) ?h27 (by assumption) ?_
  case h27 => intro w hSw; go_simp <;> with_reducible rfl
  simp only [Act.put, List.setIfInBounds_toArray, List.set_cons_zero, List.set_cons_succ]
  refine allReadyH_oneL (i := 24) (by kernel_rfl) rfl (by rfl) (fun K hK => ?_)
  go_simp
  refine (hB _).mono ?_
  rintro e w8 ⟨rfl, hb8⟩
  have hc8 := held_on hc7 hb8
  clear hb8 hc7
  refine hK.out _ _ (hc8) (fun hHeld => ?_)
  clear hK K
  refine allReadyH_oneL (i := 25) (by kernel_rfl) rfl (by rfl) (fun K hK => ?_)
  go_simp
  refine (hQ _).mono ?_
  rintro e w9 ⟨rfl, hb9⟩
  have hc9 := held_on hc8 hb9
  clear hb9 hc8
  refine hK.out _ _ (hc9) (fun hHeld => ?_)
  clear hK K
  refine wpAnyH_takeL (i := 28) (v := ?v28) rfl (by kernel_rfl) (by kernel_rfl) (by kernel_rfl) (fun _ _ _ h => h) (by rfl) ?h28 (by assumption) ?_
  case h28 => intro w hSw; go_simp <;> with_reducible rfl
  simp only [Act.put, List.setIfInBounds_toArray, List.set_cons_zero, List.set_cons_succ]
  refine wpAnyH_takeL (i := 29) (v := ?v29) rfl (by kernel_rfl) (by kernel_rfl) (by kernel_rfl) (fun _ _ _ h => h) (by rfl) ?h29 (by assumption) ?_
  case h29 => intro w hSw; go_simp <;> with_reducible rfl
  simp only [Act.put, List.setIfInBounds_toArray, List.set_cons_zero, List.set_cons_succ]
  refine wpAnyH_takeL (i := 30) (v := ?v30) rfl (by kernel_rfl) (by kernel_rfl) (by kernel_rfl) (fun _ _ _ h => h) (by rfl) ?h30 (by assumption) ?_
  case h30 => intro w hSw; go_simp <;> with_reducible rfl
  simp only [Act.put, List.setIfInBounds_toArray, List.set_cons_zero, List.set_cons_succ]
  refine wpAnyH_done (by kernel_rfl) ?_ _
  refine NoPanic.normal ?_
  go_wp2
  go_ret
  exact ⟨rfl, hc9.1⟩

/-- Three bytes that came in. -/
theorem open_three {H : Type} {enc : TypeId × Value → H} {W : World} {b0 : Nat} {v : Value} {d : DataW H} {ps : List MemPlace} (hval : Value.okWide Try.prog W .any b0 28 v) (hd : DataW.Trod enc Try.prog W 0 (fun _ => true) true 28 v d ps) :
    ∃ x y z : Int, v = three x y z ∧ (0 ≤ x ∧ x ≤ 255) ∧ (0 ≤ y ∧ y ≤ 255) ∧ (0 ≤ z ∧ z ≤ 255) := by
  obtain ⟨zs, hv, hl, hz⟩ := open_array Try.underlying28 Try.underlying5 (by kernel_rfl) (by kernel_rfl) hval hd
  have hb := byt_of_wf hz
  match zs, hl, hb, hv with
  | [x, y, z], _, hb, hv =>
    simp only [byt_cons] at hb
    exact ⟨x, y, z, hv, hb.1, hb.2.1, hb.2.2.1⟩
set_option maxRecDepth 100000 in
theorem lifted (os : Os) (started : os.Started) (H : Type) (enc : TypeId × Value → H) :
    ReturnsInHanded {} Try.checked os 4 .any (Rows.crcBytesSpec.pre6 enc Try.prog Try.f4 Rows.crcBytesRow.domain false) (Rows.crcBytesSpec.post enc Try.prog Try.f4 false true false false) := by
  refine returnsInHanded_of_change (C := Try.checked) own started (by kernel_rfl) Try.func4
    (ChangeSpec.witness6 (enc := enc) (C := Try.checked) false ⟨#[], #[.int .u32 0, .agg #[.int .u8 0, .int .u8 0, .int .u8 0]], []⟩ 8 (by kernel_rfl) (by kernel_rfl) (by kernel_rfl) (by kernel_rfl)) ?_
  intro W base args ds gs before hval0 hW hcnd _
  have hval : ∀ (j : Nat) t v, Try.f4.params[j]? = some t → args[j]? = some v → Value.okWide Try.prog W .any base t v := hval0
  have hW' := hW
  obtain ⟨p, q, hA0, hV, rfl, hfz, hnd⟩ := hW
  have hA : DataW.TrodAll enc Try.prog W 0 (fun _ => true) true Try.f4.params.toList args.toList ds p := hA0
  rw [Try.params4] at hA hval
  obtain ⟨v0, vs0, d0, ds0, p0, q0, hargs, rfl, rfl, h0, r0⟩ := trodAll_cons hA
  obtain ⟨v1, vs1, d1, ds1, p1, q1, rfl, rfl, rfl, h1, r1⟩ := trodAll_cons r0
  obtain ⟨rfl, rfl, rfl⟩ := trodAll_nil r1
  obtain rfl : args = #[v0, v1] := by cases args; simp_all
  obtain ⟨rfl, rfl⟩ := trodVars_none hV
  obtain ⟨a0, rfl, rfl, rfl, w0⟩ := open_int Try.underlying22 (hval 0 22 v0 rfl rfl) h0
  have k1 := h1
  have lt1 : ∀ x ∈ p1, x.block < W.heap.size := by obtain ⟨m, hm⟩ := k1; exact DataW.trod_lt m _ _ _ hm
  obtain ⟨x, y, z, rfl, hx, hy, hz⟩ := open_three (hval 1 28 v1 rfl rfl) h1
  clear hA0 hval0
  refine (walk a0 x y z W w0 hx hy hz).mono fun e W' ⟨he, bel⟩ => ?_
  subst he
  exact ⟨_, rfl, _, _, _, [], _, [], hW', trodAll_mk1 (shut_bool Try.underlying4 _), (trodAll_cons_mk (shut_int Try.underlying22 w0) (trodAll_cons_mk (Below.trod laidOut (by kernel_rfl) (of_decide_eq_true (by kernel_rfl)) k1 bel lt1) trodAll_mk0)), rfl, bel.frame _, fun h => by cases h⟩

theorem over : Rows.crcBytesRow.holds Try.pinned (OpenSpec.ofChange Rows.crcBytesSpec) :=
  OpenClaim.holds_of_wide 4 Try.f4 rfl rfl rfl rfl rfl rfl rfl ⟨rfl, rfl, rfl, rfl, rfl⟩ rfl rfl rfl rfl rfl (by kernel_rfl) Try.func4 (by kernel_rfl)
    (of_decide_eq_true (by kernel_rfl)) (by unfold Func.isWrapper; first | (rw [if_pos (by decide +kernel)]; kernel_rfl) | (rw [if_neg (by decide +kernel)]; exact ⟨rfl, rfl⟩))
    (fun os started H enc _ => lifted os started H enc)

end Go.Proofs.Ytdfaobpdifphoaa.crcBytes
namespace Go.Proofs.Ytdfaobpdifphoaa
/-- The given statement. -/
theorem crcBytes_proved : Rows.CrcBytesSaid := crcBytes.over
end Go.Proofs.Ytdfaobpdifphoaa
