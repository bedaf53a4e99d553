/-
  Contracts of the document's less, Sub, over this seat's translation. Conditions: at most 100000 words.
-/
import Derived.Test.YtdpahahfcdldcaaDoorRefE
namespace Go.Proofs.YtdpahahfcdldcaaDoor
open Go.RowKit
set_option linter.unusedVariables false

set_option maxHeartbeats 2000000 in
theorem less_any (va vb : Value) (xs ys : List Nat) (w : World) (ha : SlV w va (C .u64 xs)) (hb : SlV w vb (C .u64 ys)) (hx : Lo W16 xs) (hy : Lo W16 ys) (hxm : xs.length ≤ 300000) (hym : ys.length ≤ 300000) (hle : val W16 ys ≤ val W16 xs) :
    Calls Tryd.prog 57 #[va, vb] w fun e w' => ∃ v' es, e = .returned v' ∧ Is W16 (val W16 xs - val W16 ys) es ∧ es.length ≤ xs.length ∧ SlV w' v' (C .u64 es) ∧ Below w.heap.size w w' := by
  obtain ⟨n, hn⟩ : ∃ n, xs.length = n := ⟨_, rfl⟩
  have HA := Away.mk ha; have HB := Away.mk hb
  obtain ⟨a, cap, rfl, q1, r1⟩ := ha.shapeC hn
  rw [hn] at hxm ⊢
  have HLE := Away.mk hle
  clear ha hb hle
  go_enter Tryd.func57, Tryd.ntmps57
  go_wp2
  go_loopw [5, 6, 7] (fun ov cv iv wr => ∃ (k c : Nat) (out : List Nat), k ≤ n ∧ iv = .int .i64 (k : Int) ∧ cv = .int .u64 (c : Int) ∧ c ≤ 1 ∧ out.length = k ∧ Lo W16 out ∧ val W16 out + val W16 (ys.take k) = val W16 (xs.take k) + W16 ^ k * c ∧ wr.ownsRow w.heap.size 22 1 ov k (C .u64 out) ∧ Below w.heap.size w wr) (fun _ _ i _ => n - (intOf i).toNat)
  case atStart => exact ⟨0, 0, [], Nat.zero_le _, rfl, rfl, by omega, rfl, Lo.nil _, by simp [val], own_empty w _ _ (Nat.le_refl _), (Below.refl _ _).alloc (Nat.le_refl _) _⟩
  case round =>
    obtain ⟨k, c, out, hk, rfl, rfl, hc, hol, holo, hval, hown, hb⟩ := hrel
    by_cases hlt : k < n
    · obtain ⟨b, off, rfl, hbl, hcx⟩ := HA.out.cells (by rw [C_length]; omega)
      have hck : wr.cell? ⟨b, off + k, none⟩ = some (.int .u64 (xs.getD k 0 : Nat)) := (hb.cell (p := ⟨b, off + k, none⟩) hbl).trans (hcx k _ (C_get _ (by omega)))
      have hd2 := digit_any _ ys k wr.drew ((HB.out.below hb).below ((Below.refl _ _).drew)) (by omega) (by omega)
      have hx1 : xs.getD k 0 < 65536 := hx.getD (by decide) _
      have hx2 : ys.getD k 0 < 65536 := hy.getD (by decide) _
      have hv1 := val_take_succ (B := W16) xs k
      have hv2 := val_take_succ (B := W16) ys k
      generalize xs.getD k 0 = x at *
      generalize ys.getD k 0 = y at *
      obtain ⟨s, hs⟩ : ∃ s, x + 65536 - y - c = s := ⟨_, rfl⟩
      obtain ⟨p, hp⟩ : ∃ p, s % 65536 = p := ⟨_, rfl⟩
      obtain ⟨d, hd⟩ : ∃ d, 1 - s / 65536 = d := ⟨_, rfl⟩
      have hrel : p + y + c = x + 65536 * d ∧ d ≤ 1 ∧ s < 131072 ∧ p < 65536 := by omega
      have e1 : (x : Int) + 65536 - y - c = (s : Int) := by omega
      have e2 : (s : Int) % 65536 = (p : Int) := by omega
      have e3 : 1 - (s : Int) / 65536 = (d : Int) := by omega
      obtain ⟨r1', r2', r3', r4'⟩ := hrel
      have HD2 := Away.mk hd2; have HV1 := Away.mk hv1; have HV2 := Away.mk hv2; have HV := Away.mk hval; have HO := Away.mk hown; have HBB := Away.mk hb; have HL := Away.mk holo; have HR := Away.mk r1'; have E1 := Away.mk e1
      clear hd2 hv1 hv2 hval hown hb holo hs hp hd hcx r1' e1
      go_wp2
      refine wp_region_noPanic ?_
      refine wp_region_held_drew (S := fun w' => w'.cell? ⟨b, off + k, none⟩ = some (.int .u64 (x : Int))) (by kernel_rfl) (hck) (fun hHeld => ?_)
      refine wpAnyH_takeL (i := 0) (v := ?v0) rfl (by kernel_rfl) (by kernel_rfl) (by kernel_rfl) (fun _ _ _ h => h) (by rfl) ?h0 (by assumption) ?_
      case h0 => intro w hSw; go_simp <;> with_reducible rfl
      simp only [Act.put, List.setIfInBounds_toArray, List.set_cons_zero, List.set_cons_succ]
      refine wpAnyH_takeL (i := 1) (v := ?v1) rfl (by kernel_rfl) (by kernel_rfl) (by kernel_rfl) (fun _ _ _ h => h) (by rfl) ?h1 (by assumption) ?_
      case h1 => intro w hSw; go_simp <;> with_reducible rfl
      simp only [Act.put, List.setIfInBounds_toArray, List.set_cons_zero, List.set_cons_succ]
      refine wpAnyH_takeL (i := 2) (v := ?v2) rfl (by kernel_rfl) (by kernel_rfl) (by kernel_rfl) (fun _ _ _ h => h) (by rfl) ?h2 (by assumption) ?_
      case h2 => intro w hSw; go_simp <;> with_reducible rfl
      simp only [Act.put, List.setIfInBounds_toArray, List.set_cons_zero, List.set_cons_succ]
      refine wpAnyH_takeL (i := 3) (v := ?v3) rfl (by kernel_rfl) (by kernel_rfl) (by kernel_rfl) (fun _ _ _ h => h) (by rfl) ?h3 (by assumption) ?_
      case h3 => intro w hSw; go_simp <;> with_reducible rfl
      simp only [Act.put, List.setIfInBounds_toArray, List.set_cons_zero, List.set_cons_succ]
      refine wpAnyH_takeL (i := 4) (v := ?v4) rfl (by kernel_rfl) (by kernel_rfl) (by kernel_rfl) (fun _ _ _ h => h) (by rfl) ?h4 (by assumption) ?_
      case h4 => intro w hSw; go_simp <;> with_reducible rfl
      simp only [Act.put, List.setIfInBounds_toArray, List.set_cons_zero, List.set_cons_succ]
      refine wpAnyH_takeL (i := 5) (v := ?v5) rfl (by kernel_rfl) (by kernel_rfl) (by kernel_rfl) (fun _ _ _ h => h) (by rfl) ?h5 (by assumption) ?_
      case h5 => intro w hSw; go_simp <;> with_reducible rfl
      simp only [Act.put, List.setIfInBounds_toArray, List.set_cons_zero, List.set_cons_succ]
      refine wpAnyH_takeL (i := 6) (v := ?v6) rfl (by kernel_rfl) (by kernel_rfl) (by kernel_rfl) (fun _ _ _ h => h) (by rfl) ?h6 (by assumption) ?_
      case h6 => intro w hSw; go_simp <;> with_reducible rfl
      simp only [Act.put, List.setIfInBounds_toArray, List.set_cons_zero, List.set_cons_succ]
      refine wpAnyH_takeL (i := 9) (v := ?v9) rfl (by kernel_rfl) (by kernel_rfl) (by kernel_rfl) (fun _ _ _ h => h) (by rfl) ?h9 (by assumption) ?_
      case h9 => intro w hSw; go_simp <;> with_reducible rfl
      simp only [Act.put, List.setIfInBounds_toArray, List.set_cons_zero, List.set_cons_succ]
      refine allReadyH_oneL (i := 7) (by kernel_rfl) rfl (by rfl) (fun K hK => ?_)
      go_simp
      refine HD2.out.mono ?_
      rintro _ w' ⟨rfl, rfl⟩
      refine hK.out _ _ (hck) (fun hHeld => ?_)
      clear hK K
      refine wpAnyH_takeL (i := 8) (v := ?v8) rfl (by kernel_rfl) (by kernel_rfl) (by kernel_rfl) (fun _ _ _ h => h) (by rfl) ?h8 (by assumption) ?_
      case h8 => intro w hSw; go_simp <;> with_reducible rfl
      simp only [Act.put, List.setIfInBounds_toArray, List.set_cons_zero, List.set_cons_succ]
      refine wpAnyH_takeL (i := 10) (v := ?v10) rfl (by kernel_rfl) (by kernel_rfl) (by kernel_rfl) (fun _ _ _ h => h) (by rfl) ?h10 (by assumption) ?_
      case h10 => intro w hSw; go_simp <;> with_reducible rfl
      simp only [Act.put, List.setIfInBounds_toArray, List.set_cons_zero, List.set_cons_succ]
      refine wpAnyH_takeL (i := 11) (v := ?v11) rfl (by kernel_rfl) (by kernel_rfl) (by kernel_rfl) (fun _ _ _ h => h) (by rfl) ?h11 (by assumption) ?_
      case h11 => intro w hSw; go_simp <;> with_reducible rfl
      simp only [Act.put, List.setIfInBounds_toArray, List.set_cons_zero, List.set_cons_succ]
      refine wpAnyH_done (by kernel_rfl) ?_ _
      refine NoPanic.normal ?_
      have eS : IntKind.u64.wrap (IntKind.u64.wrap (IntKind.u64.wrap ((x : Int) + 65536) - (y : Int)) - (c : Int)) = (s : Int) := by
        simp only [wrapU]; have := E1.out; omega
      first | rw [eS] | skip
      have hOd : wr.drew.ownsRow w.heap.size 22 1 u5 k (C .u64 out) := HO.out
      have HOd := Away.mk hOd
      have HBd := Away.mk HBB.out.drew
      have e4 : IntKind.u64.wrap (1 - (s : Int) / 65536) = (d : Int) := by rw [wrapU, e3]; omega
      clear hOd eS hHeld
      go_wp2_with (at_builtin; refine wpList_append_sl rfl (.tmp 30) (.tmp 33) 59 rfl w.heap.size 22 (.int .u64 0) 8 Tryd.underlying59 Tryd.info22 rfl _ k _ rfl (HOd.out.alloc _) _ [.int .u64 (p : Int)] rfl (SlV_one _ _ _) (by simp [Value.oneCell']) (by simp; unfold maxLen; omega) (by simp; omega) (by have := HBB.out.size; simp; omega) ?_)
      intro v2' w3 hown2 hg2
      have hb2 : Below w.heap.size w w3 := (HBd.out.alloc HBd.out.size _).grown hg2 (by have := HBB.out.size; simp; omega) (fun j e => (HO.out.lt j e).1)
      have HO2 := Away.mk hown2; have HB3 := Away.mk hb2
      clear hown2 hg2 hb2
      go_wp2
      go_roundw
      case rel =>
        refine ⟨k + 1, d, out ++ [p], by omega, by simp, rfl, r2', by simp [hol], HL.out.append (by intro u hu; show u < 65536; simp at hu; omega), ?_, by rw [C_append]; exact HO2.out, HB3.out⟩
        rw [val_append, val_one, hol, HV1.out, HV2.out, Nat.pow_succ]
        have h1 := HV.out
        have h2 := HR.out
        generalize val W16 out = A at *
        generalize val W16 (xs.take k) = T1 at *
        generalize val W16 (ys.take k) = T2 at *
        generalize W16 ^ k = P at *
        simp only [W16]
        grind
      case measure => simp [intOf]; omega
    · obtain rfl : k = n := by omega
      have hxl := val_lt (B := W16) (by decide) hx
      rw [hn] at hxl
      have hyt : val W16 (ys.take k) = val W16 ys := val_take_all (by decide) (Nat.lt_of_le_of_lt HLE.out hxl)
      rw [List.take_of_length_le (by omega : xs.length ≤ k), hyt] at hval
      have hol' := val_lt (B := W16) (by decide) holo
      rw [hol] at hol'
      have hv := (no_borrow hval hol' HLE.out).2
      have HT := Away.mk (trim_any _ out wr (SlV.ofOwn hown) holo (by omega))
      rw [hv] at HT
      have HBr := Away.mk hb
      clear hval hown hb holo hv hxl hyt hol'
      go_wp2_with fail
      refine HT.out.mono ?_
      rintro _ w6 ⟨v', es, rfl, hI, hle, hs6, rfl⟩
      go_wp2
      go_ret
      have hle' : es.length ≤ k := by omega
      first | exact ⟨_, es, rfl, hI, hle', hs6, HBr.out⟩ | exact ⟨_, rfl, es, hI, hle', hs6, HBr.out⟩

end Go.Proofs.YtdpahahfcdldcaaDoor
