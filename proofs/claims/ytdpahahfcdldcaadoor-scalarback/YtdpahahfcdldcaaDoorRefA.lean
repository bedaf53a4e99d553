/-
  Contracts of the document's digit, trim, Digits, Whole, Same, From, over this seat's translation. Conditions: at most 100000 words.
-/
import Derived.Test.YtdpahahfcdldcaaDoorNatX
namespace Go.Proofs.YtdpahahfcdldcaaDoor
open Go.RowKit
set_option linter.unusedVariables false

theorem Tryd.info22 : (Tryd.prog.info? 22).map (fun i => (i.zero, i.size, i.bytes)) = some (some (.int .u64 0), 1, 8) := by kernel_rfl
theorem Tryd.size22 : (Tryd.prog.info? 22).map (·.size) = some 1 := by kernel_rfl
abbrev W16 : Nat := 65536

/-- append(s, x...) as one operation, s the call's own. -/
theorem op_append_own {P : Program} {w : World} {o : Oper} {a : Act} {K : Act → World → Prop} {Q : Exit → Act → World → Prop} (s x : Operand) (t : TypeId)
    (ho : o.op = .call { callee := .builtin .append, args := #[s, x], argTypes := #[t, t] })
    (base : Nat) (e : TypeId) (z : Value) (bytes : Nat) (ht : P.underlying t = some (.slice e)) (hinfo : (P.info? e).map (fun i => (i.zero, i.size, i.bytes)) = some (some z, 1, bytes)) (hzs : z.cells.size = 1)
    (v : Value) (n : Nat) (xs : List Value) (hs : a.eval s = v) (hown : w.ownsRow base e 1 v n xs) (ad : Addr) (m c : Nat) (news : List Value) (hx : a.eval x = .slice (some ad) m c) (hl : news.length = m)
    (hnews : ∀ j u, news[j]? = some u → w.cell? (ad.add j) = some u) (h1 : ∀ u ∈ news, u.oneCell' = true) (h63 : n + m ≤ maxLen) (hbytes : (n + m) * bytes ≤ 140737488355328) (hbase : base ≤ w.heap.size)
    (h : ∀ v' w', w'.ownsRow base e 1 v' (n + m) (xs ++ news) → w.grownBy w' v.ownBlock → K (a.put o.dst v') w') : Oper.wp P o a w K Q := by
  obtain ⟨i0, hi, hz0, hz1, hz2⟩ := info_parts hinfo
  obtain ⟨v', w', hrun, r1, r2, _⟩ := run_append_own (P := P) w base t o.type e i0 z 1 bytes ht hi hz0 hz1 hz2 hzs (by decide) v n xs hown ad m c news (by omega) hnews h1 h63 hbytes hbase
  unfold Oper.wp
  simp [execOp, ho, resolve, invoke, builtin, hs, hx, hrun, Result.andThen]
  exact h _ _ r1 r2

theorem digit_any (v : Value) (ds : List Nat) (i : Nat) (w : World) (hs : SlV w v (C .u64 ds)) (hm : ds.length ≤ 1000000) (hi : i ≤ 1000000000) :
    Calls Tryd.prog 47 #[v, .int .i64 (i : Int)] w fun e w' => e = .returned (.int .u64 (ds.getD i 0 : Nat)) ∧ w = w' := by
  obtain ⟨n, hn⟩ : ∃ n, ds.length = n := ⟨_, rfl⟩
  obtain ⟨a, cap, rfl, q1, r1⟩ := hs.shapeC hn
  rw [hn] at hm
  by_cases h : i < n
  · obtain ⟨b, off, rfl, hb, hc⟩ := hs.cells (by rw [C_length]; omega)
    have hck := hc i _ (C_get _ (by omega))
    generalize ds.getD i 0 = x at *
    clear hs hc
    go_enter Tryd.func47, Tryd.ntmps47
    go_wp2
    go_ret
    exact ⟨rfl, rfl⟩
  · rw [getD_past (by omega)]
    go_enter Tryd.func47, Tryd.ntmps47
    go_wp2
    go_ret
    exact ⟨rfl, rfl⟩
theorem trim_any (v : Value) (ds : List Nat) (w : World) (hs : SlV w v (C .u64 ds)) (hl : Lo W16 ds) (hm : ds.length ≤ 1000000) :
    Calls Tryd.prog 54 #[v] w fun e w' => ∃ v' es, e = .returned v' ∧ Is W16 (val W16 ds) es ∧ es.length ≤ ds.length ∧ SlV w v' (C .u64 es) ∧ w = w' := by
  obtain ⟨n, hn⟩ : ∃ n, ds.length = n := ⟨_, rfl⟩
  obtain ⟨a, cap, rfl, q1, r1⟩ := hs.shapeC hn
  rw [hn] at hm
  go_enter Tryd.func54, Tryd.ntmps54
  go_wp2
  go_loop [3] (fun i => ∃ k : Nat, k ≤ n ∧ i = .int .i64 (k : Int) ∧ ∀ j, k ≤ j → ds.getD j 0 = 0) (fun i => (intOf i).toNat)
  case atStart => exact ⟨n, Nat.le_refl _, rfl, fun j hj => getD_past (by omega)⟩
  case round =>
    obtain ⟨k, hk, rfl, hz⟩ := hrel
    have hend : ds.getD (k - 1) 0 ≠ 0 ∨ k = 0 → ∃ es, Is W16 (val W16 ds) es ∧ es.length ≤ n ∧ SlV w (.slice a k cap) (C .u64 es) := fun h => by
      refine ⟨ds.take k, ?_, by rw [List.length_take]; omega, by rw [C_take]; exact hs.upto k hk⟩
      have hlen : (ds.take k).length = k := by rw [List.length_take]; omega
      have h1 := Is.ofLast (B := W16) (hl.take k) (fun hp => by
        rw [hlen] at hp ⊢
        rw [getD_take _ _ _ (by omega)]
        rcases h with h | h
        · exact h
        · omega)
      have h2 : val W16 (ds.take k) = val W16 ds := by
        have := val_take_drop (B := W16) ds k (by omega)
        rw [val_drop_zero hz] at this
        omega
      rwa [h2] at h1
    have HE := Away.mk hend; have HZ := Away.mk hz
    clear hend hz
    by_cases h0 : k = 0
    · subst h0
      go_wp2
      go_ret
      obtain ⟨es, g1, g2, g3⟩ := HE.out (by simp)
      first | exact ⟨_, es, rfl, g1, g2, g3, rfl⟩ | exact ⟨_, rfl, es, g1, g2, g3, rfl⟩
    · obtain ⟨b, off, rfl, hb, hc⟩ := hs.cells (by rw [C_length]; omega)
      have hck := hc (k - 1) _ (C_get _ (by omega))
      have e1 : (k : Int) - 1 = ((k - 1 : Nat) : Int) := by omega
      obtain ⟨p, hp⟩ : ∃ p, k - 1 = p := ⟨_, rfl⟩
      rw [hp] at hck e1 HE
      have hpk : p < n := by omega
      have HP := Away.mk hp
      obtain ⟨x, hx⟩ : ∃ x, ds.getD p 0 = x := ⟨_, rfl⟩
      rw [hx] at hck HE
      have HX := Away.mk hx
      clear hc hp hx
      have HS := Away.mk hs
      clear hs
      by_cases hx0 : x = 0
      · subst hx0
        go_wp2
        go_round
        case rel =>
          have hp := HP.out
          refine ⟨p, by omega, rfl, fun j hj => ?_⟩
          by_cases h : j = p
          · rw [h]; exact HX.out
          · exact HZ.out j (by omega)
        case measure => have hp := HP.out; simp [intOf]; omega
      · have d0 : ((x : Int) == 0) = false := by simpa using hx0
        go_wp2
        go_ret
        obtain ⟨es, g1, g2, g3⟩ := HE.out (.inl hx0)
        first | exact ⟨_, es, rfl, g1, g2, g3, rfl⟩ | exact ⟨_, rfl, es, g1, g2, g3, rfl⟩

set_option maxHeartbeats 1000000 in
theorem digits_any (v : Value) (xs : List Nat) (w : World) (hs : SlV w v (C .u32 xs)) (hl : Lo W32 xs) (hm : xs.length ≤ 100000) :
    Calls Tryd.prog 46 #[v] w fun e w' => ∃ v' es, e = .returned v' ∧ Is W16 (val W32 xs) es ∧ es.length ≤ 2 * xs.length ∧ SlV w' v' (C .u64 es) ∧ Below w.heap.size w w' := by
  obtain ⟨n, hn⟩ : ∃ n, xs.length = n := ⟨_, rfl⟩
  obtain ⟨a, cap, rfl, q1, r1⟩ := hs.shapeC hn
  rw [hn] at hm ⊢
  have HS := Away.mk hs
  clear hs
  go_enter Tryd.func46, Tryd.ntmps46
  go_wp2
  go_loopw [3, 4] (fun dv iv wr => ∃ (k : Nat) (ds : List Nat), k ≤ n ∧ iv = .int .i64 (k : Int) ∧ ds.length = 2 * k ∧ Lo W16 ds ∧ val W16 ds = val W32 (xs.take k) ∧ wr.ownsRow w.heap.size 22 1 dv (2 * k) (C .u64 ds) ∧ Below w.heap.size w wr) (fun _ i _ => n - (intOf i).toNat)
  case atStart => exact ⟨0, [], Nat.zero_le _, rfl, rfl, Lo.nil _, by simp [val], own_empty w _ _ (Nat.le_refl _), (Below.refl _ _).alloc (Nat.le_refl _) _⟩
  case round =>
    obtain ⟨k, ds, hk, rfl, hdl, hdlo, hval, hown, hb⟩ := hrel
    by_cases hlt : k < n
    · obtain ⟨b, off, rfl, hbl, hcx⟩ := HS.out.cells (by rw [C_length]; omega)
      have hck : wr.cell? ⟨b, off + k, none⟩ = some (.int .u32 (xs.getD k 0 : Nat)) := (hb.cell (p := ⟨b, off + k, none⟩) hbl).trans (hcx k _ (C_get _ (by omega)))
      have hxb : xs.getD k 0 < 4294967296 := hl.getD (by decide) k
      have hvs := val_take_succ (B := W32) xs k
      obtain ⟨x, hx⟩ : ∃ x, xs.getD k 0 = x := ⟨_, rfl⟩
      rw [hx] at hck hxb hvs
      have HO := Away.mk hown; have HB := Away.mk hb; have H1 := Away.mk hval; have H2 := Away.mk hvs; have HL := Away.mk hdlo
      clear hcx hown hb hval hvs hdlo hx
      go_wp2
      refine wp_region_noPanic ?_
      refine wp_region_held_drew (S := fun w' => w'.cell? ⟨b, off + k, none⟩ = some (.int .u32 (x : Int))) (by kernel_rfl) (hck) (fun hHeld => ?_)
      refine wpAnyH_takeL (i := 0) (v := ?v0) rfl (by kernel_rfl) (by kernel_rfl) (by kernel_rfl) (fun _ _ _ h => h) (by rfl) ?h0 (by assumption) ?_
      case h0 => intro w hSw; go_simp <;> with_reducible rfl
      simp only [Act.put, List.setIfInBounds_toArray, List.set_cons_zero, List.set_cons_succ]
      refine wpAnyH_takeL (i := 1) (v := ?v1) rfl (by kernel_rfl) (by kernel_rfl) (by kernel_rfl) (fun _ _ _ h => h) (by rfl) ?h1 (by assumption) ?_
      case h1 => intro w hSw; go_simp <;> with_reducible rfl
      simp only [Act.put, List.setIfInBounds_toArray, List.set_cons_zero, List.set_cons_succ]
      refine wpAnyH_takeL (i := 2) (v := ?v2) rfl (by kernel_rfl) (by kernel_rfl) (by kernel_rfl) (fun _ _ _ h => h) (by rfl) ?h2 (by assumption) ?_
      case h2 => intro w hSw; go_simp <;> with_reducible rfl
      simp only [Act.put, List.setIfInBounds_toArray, List.set_cons_zero, List.set_cons_succ]
      refine wpAnyH_takeL (i := 3) (v := ?v3) rfl (by kernel_rfl) (by kernel_rfl) (by kernel_rfl) (fun _ _ _ h => h) (by rfl) ?h3 (by assumption) ?_
      case h3 => intro w hSw; go_simp <;> with_reducible rfl
      simp only [Act.put, List.setIfInBounds_toArray, List.set_cons_zero, List.set_cons_succ]
      refine wpAnyH_takeL (i := 4) (v := ?v4) rfl (by kernel_rfl) (by kernel_rfl) (by kernel_rfl) (fun _ _ _ h => h) (by rfl) ?h4 (by assumption) ?_
      case h4 => intro w hSw; go_simp <;> with_reducible rfl
      simp only [Act.put, List.setIfInBounds_toArray, List.set_cons_zero, List.set_cons_succ]
      refine wpAnyH_takeL (i := 5) (v := ?v5) rfl (by kernel_rfl) (by kernel_rfl) (by kernel_rfl) (fun _ _ _ h => h) (by rfl) ?h5 (by assumption) ?_
      case h5 => intro w hSw; go_simp <;> with_reducible rfl
      simp only [Act.put, List.setIfInBounds_toArray, List.set_cons_zero, List.set_cons_succ]
      refine wpAnyH_takeL (i := 6) (v := ?v6) rfl (by kernel_rfl) (by kernel_rfl) (by kernel_rfl) (fun _ _ _ h => h) (by rfl) ?h6 (by assumption) ?_
      case h6 => intro w hSw; go_simp <;> with_reducible rfl
      simp only [Act.put, List.setIfInBounds_toArray, List.set_cons_zero, List.set_cons_succ]
      refine wpAnyH_takeL (i := 7) (v := ?v7) rfl (by kernel_rfl) (by kernel_rfl) (by kernel_rfl) (fun _ _ _ h => h) (by rfl) ?h7 (by assumption) ?_
      case h7 => intro w hSw; go_simp <;> with_reducible rfl
      simp only [Act.put, List.setIfInBounds_toArray, List.set_cons_zero, List.set_cons_succ]
      refine wpAnyH_takeL (i := 8) (v := ?v8) rfl (by kernel_rfl) (by kernel_rfl) (by kernel_rfl) (fun _ _ _ h => h) (by rfl) ?h8 (by assumption) ?_
      case h8 => intro w hSw; go_simp <;> with_reducible rfl
      simp only [Act.put, List.setIfInBounds_toArray, List.set_cons_zero, List.set_cons_succ]
      refine wpAnyH_takeL (i := 9) (v := ?v9) rfl (by kernel_rfl) (by kernel_rfl) (by kernel_rfl) (fun _ _ _ h => h) (by rfl) ?h9 (by assumption) ?_
      case h9 => intro w hSw; go_simp <;> with_reducible rfl
      simp only [Act.put, List.setIfInBounds_toArray, List.set_cons_zero, List.set_cons_succ]
      refine wpAnyH_takeL (i := 10) (v := ?v10) rfl (by kernel_rfl) (by kernel_rfl) (by kernel_rfl) (fun _ _ _ h => h) (by rfl) ?h10 (by assumption) ?_
      case h10 => intro w hSw; go_simp <;> with_reducible rfl
      simp only [Act.put, List.setIfInBounds_toArray, List.set_cons_zero, List.set_cons_succ]
      refine wpAnyH_takeL (i := 11) (v := ?v11) rfl (by kernel_rfl) (by kernel_rfl) (by kernel_rfl) (fun _ _ _ h => h) (by rfl) ?h11 (by assumption) ?_
      case h11 => intro w hSw; go_simp <;> with_reducible rfl
      simp only [Act.put, List.setIfInBounds_toArray, List.set_cons_zero, List.set_cons_succ]
      refine wpAnyH_takeL (i := 12) (v := ?v12) rfl (by kernel_rfl) (by kernel_rfl) (by kernel_rfl) (fun _ _ _ h => h) (by rfl) ?h12 (by assumption) ?_
      case h12 => intro w hSw; go_simp <;> with_reducible rfl
      simp only [Act.put, List.setIfInBounds_toArray, List.set_cons_zero, List.set_cons_succ]
      obtain ⟨p, hp⟩ : ∃ p, x % 65536 = p := ⟨_, rfl⟩
      obtain ⟨r, hr⟩ : ∃ r, x / 65536 = r := ⟨_, rfl⟩
      have eA : IntKind.u64.wrap ((x : Int).tmod 65536) = (p : Int) := by
        rw [Int.tmod_eq_emod_of_nonneg (by omega), wrapU]; omega
      have eB : IntKind.u64.wrap (IntKind.u32.wrap ((x : Int) / 65536)) = (r : Int) := by
        rw [wrap32, wrapU]; omega
      rw [eA, eB]
      have hpb : p < 65536 := by omega
      have hrb : r < 65536 := by omega
      have hpr : x = p + 65536 * r := by omega
      have HPR := Away.mk hpr
      clear eA eB hp hr hpr
      have hd := HO.out.alloc (.cells #[.int .u64 (p : Int), .int .u64 (r : Int)] 22)
      have hd2 : (wr.drew.alloc (.cells #[.int .u64 (p : Int), .int .u64 (r : Int)] 22)).ownsRow w.heap.size 22 1 u3 (2 * k) (C .u64 ds) := hd
      have hbs := HB.out.size
      have hne : u3.ownBlock ≠ some b := fun e => by have := (HO.out.lt b e).1; omega
      refine allReadyH_oneL (i := 13) (by kernel_rfl) rfl (by rfl) (fun K hK => ?_)
      go_simp
      refine hK.out _ _ (cell_alloc hck _) (fun hHeld => ?_)
      clear hK K
      refine allReadyH_oneL (i := 14) (by kernel_rfl) rfl (by rfl) (fun K hK => ?_)
      refine op_append_own (.tmp 12) (.tmp 25) 59 rfl w.heap.size 22 (.int .u64 0) 8 Tryd.underlying59 Tryd.info22 rfl u3 (2 * k) (C .u64 ds) rfl hd2 ⟨wr.heap.size, 0, none⟩ 2 2 (C .u64 [p, r]) rfl rfl ?cells (C_one _ _) (by unfold maxLen; omega) (by omega) (by simp; omega) ?_
      case cells =>
        intro j u hu
        rw [Addr.add_lit, Nat.zero_add]
        exact ((Row.new wr 22 (C .u64 [p, r])).cell j).trans hu
      intro v' w2 hown2 hg2
      have hcell2 : w2.cell? ⟨b, off + k, none⟩ = some (.int .u32 (x : Int)) := by
        rw [World.cell?_of_block (a := ⟨b, off + k, none⟩) (hg2.block b (by have := World.block_lt_of_cell? wr _ hck; simp at this ⊢; omega) (fun e => hne e.symm))]
        exact cell_alloc hck _
      refine hK.out _ _ hcell2 (fun hHeld => ?_)
      clear hK K
      try simp only [Act.put, List.setIfInBounds_toArray, List.set_cons_zero, List.set_cons_succ]
      refine wpAnyH_takeL (i := 15) (v := ?v15) rfl (by kernel_rfl) (by kernel_rfl) (by kernel_rfl) (fun _ _ _ h => h) (by rfl) ?h15 (by assumption) ?_
      case h15 => intro w hSw; go_simp <;> with_reducible rfl
      simp only [Act.put, List.setIfInBounds_toArray, List.set_cons_zero, List.set_cons_succ]
      refine wpAnyH_done (by kernel_rfl) ?_ _
      refine NoPanic.normal ?_
      have hb2 : Below w.heap.size w w2 := (HB.out.drew.alloc (by simp; omega) _).grown hg2 (by simp; omega) (fun j e => (HO.out.lt j e).1)
      have HO2 := Away.mk hown2; have HB2 := Away.mk hb2
      clear hown2 hg2 hb2 hd hd2 hcell2 hHeld
      go_wp2
      go_roundw
      case rel =>
        refine ⟨k + 1, ds ++ [p, r], by omega, by go_num, by simp; omega, HL.out.append (by intro y hy; show y < 65536; simp at hy; rcases hy with rfl | rfl <;> omega), ?_, ?_, HB2.out⟩
        · rw [val_append, H1.out, H2.out, hdl, Nat.pow_mul]
          have hpr := HPR.out
          simp only [val, W16, Nat.mul_zero, Nat.add_zero]
          rw [← hpr]
        · rw [C_append, show 2 * (k + 1) = 2 * k + 2 by omega]; exact HO2.out
      case measure => simp [intOf]; omega
    · obtain rfl : k = n := by omega
      rw [List.take_of_length_le (by omega)] at hval
      have HT := Away.mk (trim_any u3 ds wr (SlV.ofOwn hown) hdlo (by omega))
      rw [hval] at HT
      have HB := Away.mk hb
      clear hval hb hown
      go_wp2_with fail
      refine HT.out.mono ?_
      rintro _ w6 ⟨v', es, rfl, hI, hle, hs6, rfl⟩
      go_wp2
      go_ret
      have hle' : es.length ≤ 2 * k := by omega
      first | exact ⟨_, es, rfl, hI, hle', hs6, HB.out⟩ | exact ⟨_, rfl, es, hI, hle', hs6, HB.out⟩
end Go.Proofs.YtdpahahfcdldcaaDoor
