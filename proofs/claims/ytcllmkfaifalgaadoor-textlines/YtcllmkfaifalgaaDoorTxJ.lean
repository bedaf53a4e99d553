/-
  The document's Lines, Canon, Plain, Signed. Conditions: at most 1000 bytes.
-/
import Derived.Test.YtcllmkfaifalgaaDoorTxI
namespace Go.Proofs.YtcllmkfaifalgaaDoor.T
open Go Go.RowKit
set_option linter.unusedVariables false
set_option maxRecDepth 100000

/-- x[:m] of a row of the call's own. -/
theorem own_upto {w : World} {base n : Nat} {e : TypeId} {a : Option Addr} {cap : Nat} {xs : List Value} (h : w.ownsRow base e 1 (.slice a n cap) n xs) (m : Nat) (hm : m ≤ n) (hp : 0 < n) : w.ownsRow base e 1 (.slice a m cap) m (xs.take m) := by
  have hl : xs.length = n := by simpa using h.1
  refine ⟨by rw [List.length_take, Nat.mul_one]; omega, ?_⟩
  rcases h.2 with ⟨h0, h1⟩ | ⟨g, cap', cur, hv, hb, hg, hnc, hcm, hcs, ht⟩
  · simp at h0; omega
  · simp only [Value.slice.injEq] at hv
    obtain ⟨rfl, -, rfl⟩ := hv
    refine .inr ⟨g, cap, cur, rfl, hb, hg, by omega, hcm, hcs, ?_⟩
    rw [Nat.mul_one] at ht ⊢
    rw [← ht, List.take_take]; congr 1; omega

theorem lns_step_10 (acc t : List Int) : lns acc (10 :: t) = strip acc :: lns [] t := by simp [lns]
theorem lns_step (acc t : List Int) {x : Int} (h : ¬ x = 10) : lns acc (x :: t) = lns (acc ++ [x]) t := by simp [lns, h]

/-- What the document's Lines holds between two rounds: the lines that are done, the line that it is in. -/
structure RL (w wr : World) (xs : List Int) (k : Nat) (out line : Value) : Prop where
  ex : ∃ (M : Nat) (vs : List Value) (ls : List (List Int)) (acc : List Int), wr.ownsRow w.heap.size 22 1 out ls.length vs ∧ Ls wr w.heap.size vs ls ∧ (∀ u ∈ vs, ∀ b, u.ownBlock = some b → b < M) ∧
    wr.ownsRow M 5 1 line acc.length (U acc) ∧ w.heap.size ≤ M ∧ M ≤ wr.heap.size ∧ ls ++ lns acc (xs.drop k) = lines xs ∧ acc.length ≤ k ∧ ls.length ≤ k
  bel : Below w.heap.size w wr

theorem ls_put {wr w2 : World} {B M : Nat} {out line : Value} {vs : List Value} {ls : List (List Int)} {acc : List Int} {n : Nat} (ho : wr.ownsRow B 22 1 out n vs) (hls : Ls wr B vs ls) (hlt : ∀ u ∈ vs, ∀ b, u.ownBlock = some b → b < M)
    (hline : wr.ownsRow M 5 1 line acc.length (U acc)) (hBM : B ≤ M) (hMw : M ≤ wr.heap.size) (hg : (wr.alloc (.cells #[line] 22)).grownBy w2 out.ownBlock) :
    Ls w2 B (vs ++ [line]) (ls ++ [acc]) ∧ (∀ u ∈ vs ++ [line], ∀ b, u.ownBlock = some b → b < w2.heap.size) ∧ Below B wr w2 := by
  have hA : Below wr.heap.size wr (wr.alloc (.cells #[line] 22)) := (Below.refl _ wr).alloc (Nat.le_refl _) _
  have hoA := own_below ho hA
  have hsz : wr.heap.size ≤ w2.heap.size := Nat.le_trans hA.size hg.size
  have hstep : ∀ x k, wr.ownsRow B 5 1 x (List.length k) (U k) → w2.ownsRow B 5 1 x k.length (U k) := fun x k hx =>
    own_other (own_below hx hA) hg (e' := 22) (fun g hg' o hog => by
      rcases hoA.2 with ⟨rfl, _⟩ | ⟨g', cap, cur, rfl, _, hgb, _⟩
      · simp [Value.ownBlock] at hg'
      · obtain rfl : g' = g := by simpa [Value.ownBlock] using hg'
        rw [hgb] at hog; cases hog; exact .inr ⟨_, _, rfl⟩) (by decide)
  refine ⟨Ls.snoc (hstep _ _ (own_base hline hBM)) (Ls.imp hstep hls), fun u hu b hb => ?_, (hA.mono (by omega)).grown hg (by have := hA.size; omega) (fun k hk => (hoA.lt k hk).1)⟩
  rcases List.mem_append.1 hu with h | h
  · have := hlt u h b hb; omega
  · simp at h; subst h
    have := (hline.lt b hb).2; omega

theorem RL.more {w wr w2 : World} {xs : List Int} {k M : Nat} {x : Int} {out line v1 : Value} {vs : List Value} {ls : List (List Int)} {acc : List Int} (ho : wr.ownsRow w.heap.size 22 1 out ls.length vs) (hls : Ls wr w.heap.size vs ls) (hlt : ∀ u ∈ vs, ∀ b, u.ownBlock = some b → b < M)
    (hacc : wr.ownsRow M 5 1 line acc.length (U acc)) (hwM : w.heap.size ≤ M) (hMw : M ≤ wr.heap.size) (hB : Below w.heap.size w wr) (hg : (wr.alloc (.cells #[.int .u8 x] 5)).grownBy w2 line.ownBlock)
    (h2 : w2.ownsRow M 5 1 v1 (acc.length + 1) (U acc ++ [.int .u8 x])) (heq : ls ++ lns (acc ++ [x]) (xs.drop (k + 1)) = lines xs) (hak : acc.length ≤ k) (hlk : ls.length ≤ k) : RL w w2 xs (k + 1) out v1 := by
  have hA : Below wr.heap.size wr (wr.alloc (.cells #[.int .u8 x] 5)) := (Below.refl _ wr).alloc (Nat.le_refl _) _
  have hoA := own_below hacc hA
  have hlo : ∀ k, line.ownBlock = some k → M ≤ k := fun k hk => (hoA.lt k hk).1
  have hwB := hB.size
  have hkeep : ∀ vs' ls', (∀ u ∈ vs', ∀ b, u.ownBlock = some b → b < M) → Ls wr w.heap.size vs' ls' → Ls w2 w.heap.size vs' ls' := by
    intro vs'
    induction vs' with
    | nil => intro ls' _ h; cases ls' with
      | nil => trivial
      | cons _ _ => exact h.elim
    | cons u vs' ih =>
      intro ls' hlt' h
      cases ls' with
      | nil => exact h.elim
      | cons l ls' =>
        refine ⟨(own_below h.1 hA).kept hg ?_, ih ls' (fun u hu => hlt' u (by simp [hu])) h.2⟩
        rcases h.1.2 with ⟨rfl, _⟩ | ⟨g, cap, cur, rfl, _⟩
        · exact .inl rfl
        · refine .inr fun e => ?_
          have h3 := hlt' (.slice (some ⟨g, 0, none⟩) l.length cap) (by simp) g rfl
          have h4 := hlo g e.symm
          omega
  refine ⟨⟨M, vs, ls, acc ++ [x], ?_, hkeep vs ls hlt hls, hlt, by rw [List.length_append, U_append]; exact h2, hwM, Nat.le_trans hMw (Nat.le_trans hA.size hg.size), heq, by simp; omega, by omega⟩, ?_⟩
  · exact own_other (own_below ho hA) hg (e' := 5) (fun g hg' o hog => by
      rcases hoA.2 with ⟨rfl, _⟩ | ⟨g', cap, cur, rfl, _, hgb, _⟩
      · simp [Value.ownBlock] at hg'
      · obtain rfl : g' = g := by simpa [Value.ownBlock] using hg'
        rw [hgb] at hog; cases hog; exact .inr ⟨_, _, rfl⟩) (by decide)
  · exact (hB.trans (hA.mono hwB)).grown hg (by have := hA.size; omega) (fun k hk => Nat.le_trans hwM (hlo k hk))

theorem RL.fresh {w w2 : World} {xs : List Int} {k : Nat} {v1 : Value} {vs : List Value} {ls : List (List Int)} (ho : w2.ownsRow w.heap.size 22 1 v1 ls.length vs) (hls : Ls w2 w.heap.size vs ls) (hlt : ∀ u ∈ vs, ∀ b, u.ownBlock = some b → b < w2.heap.size)
    (hB : Below w.heap.size w w2) (heq : ls ++ lns [] (xs.drop k) = lines xs) (hk : ls.length ≤ k) : RL w (w2.alloc (.cells #[] 5)) xs k v1 (.slice (some ⟨w2.heap.size, 0, none⟩) 0 0) := by
  have hA : Below w2.heap.size w2 (w2.alloc (.cells #[] 5)) := (Below.refl _ w2).alloc (Nat.le_refl _) _
  exact ⟨⟨w2.heap.size, vs, ls, [], own_below ho hA, Ls.imp (fun _ _ h => own_below h hA) hls, hlt, own_empty w2 _ _ (Nat.le_refl _), hB.size, hA.size, heq, by simp, hk⟩, hB.alloc hB.size _⟩

set_option maxHeartbeats 4000000 in
theorem reflines_any (v : Value) (xs : List Int) (w : World) (hS : SlV w v (U xs)) (hb : Byt xs) (hl : xs.length ≤ 1000) :
    Calls Tryd.prog 10 #[v] w fun e w' => ∃ v' vs, e = .returned v' ∧ w'.ownsRow w.heap.size 22 1 v' (lines xs).length vs ∧ Ls w' w.heap.size vs (lines xs) ∧ Below w.heap.size w w' := by
  obtain ⟨L, hL⟩ : ∃ L, xs.length = L := ⟨_, rfl⟩
  have hS' := Away.mk hS
  obtain ⟨a, cap, rfl, hcap, hcm⟩ := hS.shapeU hL
  have hm : maxLen = 9223372036854775807 := rfl
  have hA : Below w.heap.size w (w.alloc (.cells #[] 22)) := (Below.refl _ _).alloc (Nat.le_refl _) _
  have hA2 : Below w.heap.size w ((w.alloc (.cells #[] 22)).alloc (.cells #[] 5)) := hA.alloc hA.size _
  have hR0 : RL w ((w.alloc (.cells #[] 22)).alloc (.cells #[] 5)) xs 0 (.slice (some ⟨w.heap.size, 0, none⟩) 0 0) (.slice (some ⟨w.heap.size + 1, 0, none⟩) 0 0) := by
    refine ⟨⟨w.heap.size + 1, [], [], [], own_below (own_empty w w.heap.size 22 (Nat.le_refl _)) ((Below.refl _ _).alloc (Nat.le_refl _) _), trivial, by simp, ?_, by omega, by simp, rfl, by simp, by simp⟩, hA2⟩
    exact own_empty_at _ _ _ _ (by simp) (by simp)
  go_enter Tryd.func10, Tryd.ntmps10
  go_wp2
  go_loopw [3, 4, 5, 6] (fun o l i n wr => ∃ k : Nat, k ≤ L ∧ i = .int .i64 k ∧ RL w wr xs k o l) (fun _ _ i _ _ => match i with | .int _ k => L - k.toNat | _ => 0)
  case atStart => exact ⟨0, by omega, rfl, hR0⟩
  case round =>
    obtain ⟨k, hk, rfl, ⟨M, vs, ls, acc, ho, hls, hlt, hacc, hwM, hMw, heq, hak, hlk⟩, hB⟩ := hrel
    obtain ⟨oa, oc, rfl, _, _⟩ := shp (SlV.ofOwn ho) hls.length
    obtain ⟨la, lc, rfl, hlc, _⟩ := (SlV.ofOwn hacc).shapeU rfl
    have hsl := hls.length
    have hwB : w.heap.size ≤ wr.heap.size := hB.size
    have hA1 : Below wr.heap.size wr (wr.alloc (.cells #[.slice la acc.length lc] 22)) := (Below.refl _ wr).alloc (Nat.le_refl _) _
    by_cases hkl : k = L
    · rw [hkl, List.drop_of_length_le (by omega), show lns acc [] = [acc] from rfl] at heq
      have hoA := own_below ho hA1
      have hone := SlV_one wr (.slice la acc.length lc) 22
      have hbA := hA1.size
      have hput := fun w2 hg => ls_put (w2 := w2) ho hls hlt hacc hwM hMw hg
      have HP := Away.mk hput
      have HQ := Away.mk heq
      clear ho hls hlt hacc hput heq hsl
      go_wp2_with (refine wpList_append_sl rfl (.tmp 48) (.tmp 50) 24 rfl w.heap.size 22 _ 24 Tryd.underlying24 inf22 rfl _ _ _ rfl hoA _ _ rfl hone (by simp [Value.oneCell']) (by unfold maxLen; simp; omega) (by simp; omega) (by omega) ?_)
      intro v1 w2 ho2 hg2
      obtain ⟨z1, z2, z3⟩ := HP.out w2 hg2
      have ho3 : w2.ownsRow w.heap.size 22 1 v1 (ls ++ [acc]).length (vs ++ [.slice la acc.length lc]) := by rw [List.length_append]; exact ho2
      rw [HQ.out] at ho3 z1
      clear ho2
      go_wp2
      go_ret
      exact ⟨_, _, rfl, ho3, z1, hB.trans z3⟩
    · have hk1 : k < xs.length := by omega
      obtain ⟨b, off, rfl, hbl, hcell⟩ := (hS.below hB).cells (by rw [U_length]; omega)
      have hc : wr.cell? ⟨b, off + k, none⟩ = some (.int .u8 xs[k]) := hcell k _ (U_get xs k hk1)
      have hd : xs.drop k = xs[k] :: xs.drop (k + 1) := List.drop_eq_getElem_cons hk1
      rw [hd] at heq
      have hxb := hb _ (List.getElem_mem hk1)
      clear hcell hd
      generalize xs[k] = x at *
      by_cases hx : x = 10
      · subst hx
        rw [lns_step_10] at heq
        have HL := Away.mk hsl
        cases hal : acc.length with
        | zero =>
          obtain rfl : acc = [] := List.eq_nil_of_length_eq_zero hal
          rw [show strip [] = [] from rfl] at heq
          clear hal
          have hput := fun w2 hg => ls_put (w2 := w2) ho hls hlt (show wr.ownsRow M 5 1 (.slice la 0 lc) ([] : List Int).length (U []) from hacc) hwM hMw hg
          have HP := Away.mk hput
          have HQ := Away.mk heq
          have hoA := own_below ho ((Below.refl _ wr).alloc (Nat.le_refl _) (.cells #[(.slice la 0 lc)] 22))
          have hone := SlV_one wr (.slice la 0 lc) 22
          have hbA := ((Below.refl wr.heap.size wr).alloc (Nat.le_refl _) (.cells #[(.slice la 0 lc)] 22)).size
          clear ho hls hlt hput heq hsl hacc
          go_wp2_with (refine wpList_append_sl rfl (.tmp 43) (.tmp 45) 24 rfl w.heap.size 22 _ 24 Tryd.underlying24 inf22 rfl _ _ _ rfl hoA _ _ rfl hone (by simp [Value.oneCell']) (by unfold maxLen; simp; omega) (by simp; omega) (by omega) ?_)
          intro v1 w2 ho2 hg2
          obtain ⟨z1, z2, z3⟩ := HP.out w2 hg2
          have ho3 : w2.ownsRow w.heap.size 22 1 v1 (ls ++ [([] : List Int)]).length (vs ++ [(.slice la 0 lc)]) := by rw [List.length_append]; exact ho2
          have hfin := RL.fresh (k := k + 1) ho3 z1 z2 (hB.trans z3) (by rw [List.append_assoc]; exact HQ.out) (by rw [List.length_append]; simp; omega)
          obtain ⟨a2, c2, rfl, _, _⟩ := shp (SlV.ofOwn ho3) (n := ls.length + 1) (by simp [HL.out])
          have HF := Away.mk hfin
          clear ho2 ho3 z1 z2 z3 hfin hg2 hoA hone
          go_wp2
          go_roundw
          case rel => exact ⟨k + 1, by omega, by go_num, HF.out⟩
          case measure => simp; omega
        | succ N =>
          obtain ⟨y, d1, d2, d3, d4⟩ := last_drop hal
          obtain ⟨bl', ol, rfl, _, hcl⟩ := (SlV.ofOwn hacc).cells (by rw [U_length]; omega)
          have hcy : wr.cell? ⟨bl', ol + N, none⟩ = some (.int .u8 y) := hcl N _ (by
            have e1 : acc = acc.take N ++ [y] := by rw [← d1, List.take_append_drop]
            have := congrArg U e1
            rw [U_append] at this
            rw [this, List.getElem?_append_right (by rw [U_length, List.length_take]; omega)]
            have e : N - (U (acc.take N)).length = 0 := by rw [U_length, List.length_take]; omega
            rw [e]; rfl)
          clear hcl
          by_cases hy : y = 13
          · subst hy
            rw [strip, if_pos d2, d4] at heq
            have hcut : wr.ownsRow M 5 1 (.slice (some ⟨bl', ol, none⟩) N lc) (acc.take N).length (U (acc.take N)) := by
              have := own_upto hacc N (by omega) (by omega)
              rw [List.length_take, Nat.min_eq_left (by omega), U_take]; exact this
            clear d1 d2 d3 d4
            have hAL := Away.mk hal
            rw [hal] at hacc hlc
            clear hal
            have hput := fun w2 hg => ls_put (w2 := w2) ho hls hlt hcut hwM hMw hg
            have HP := Away.mk hput
            have HQ := Away.mk heq
            have hoA := own_below ho ((Below.refl _ wr).alloc (Nat.le_refl _) (.cells #[(.slice (some ⟨bl', ol, none⟩) N lc)] 22))
            have hone := SlV_one wr (.slice (some ⟨bl', ol, none⟩) N lc) 22
            have hbA := ((Below.refl wr.heap.size wr).alloc (Nat.le_refl _) (.cells #[(.slice (some ⟨bl', ol, none⟩) N lc)] 22)).size
            clear ho hls hlt hput heq hsl hacc
            go_wp2_with (refine wpList_append_sl rfl (.tmp 43) (.tmp 45) 24 rfl w.heap.size 22 _ 24 Tryd.underlying24 inf22 rfl _ _ _ rfl hoA _ _ rfl hone (by simp [Value.oneCell']) (by unfold maxLen; simp; omega) (by simp; omega) (by omega) ?_)
            intro v1 w2 ho2 hg2
            obtain ⟨z1, z2, z3⟩ := HP.out w2 hg2
            have ho3 : w2.ownsRow w.heap.size 22 1 v1 (ls ++ [acc.take N]).length (vs ++ [(.slice (some ⟨bl', ol, none⟩) N lc)]) := by rw [List.length_append]; exact ho2
            have hfin := RL.fresh (k := k + 1) ho3 z1 z2 (hB.trans z3) (by rw [List.append_assoc]; exact HQ.out) (by rw [List.length_append]; simp; omega)
            obtain ⟨a2, c2, rfl, _, _⟩ := shp (SlV.ofOwn ho3) (n := ls.length + 1) (by simp [HL.out])
            have HF := Away.mk hfin
            clear ho2 ho3 z1 z2 z3 hfin hg2 hoA hone
            go_wp2
            go_roundw
            case rel => exact ⟨k + 1, by omega, by go_num, HF.out⟩
            case measure => simp; omega
          · rw [strip_keep (by rw [d2]; simp; exact hy)] at heq
            have hye : (y == 13) = false := by simpa using hy
            clear d1 d2 d3 d4
            have hAL := Away.mk hal
            rw [hal] at hacc hlc
            clear hal
            have hput := fun w2 hg => ls_put (w2 := w2) ho hls hlt (by rw [hAL.out]; exact hacc) hwM hMw hg
            have HP := Away.mk hput
            have HQ := Away.mk heq
            have hoA := own_below ho ((Below.refl _ wr).alloc (Nat.le_refl _) (.cells #[(.slice (some ⟨bl', ol, none⟩) (N + 1) lc)] 22))
            have hone := SlV_one wr (.slice (some ⟨bl', ol, none⟩) (N + 1) lc) 22
            have hbA := ((Below.refl wr.heap.size wr).alloc (Nat.le_refl _) (.cells #[(.slice (some ⟨bl', ol, none⟩) (N + 1) lc)] 22)).size
            clear ho hls hlt hput heq hsl hacc
            go_wp2_with (refine wpList_append_sl rfl (.tmp 43) (.tmp 45) 24 rfl w.heap.size 22 _ 24 Tryd.underlying24 inf22 rfl _ _ _ rfl hoA _ _ rfl hone (by simp [Value.oneCell']) (by unfold maxLen; simp; omega) (by simp; omega) (by omega) ?_)
            intro v1 w2 ho2 hg2
            obtain ⟨z1, z2, z3⟩ := HP.out w2 hg2
            have ho3 : w2.ownsRow w.heap.size 22 1 v1 (ls ++ [acc]).length (vs ++ [(.slice (some ⟨bl', ol, none⟩) (N + 1) lc)]) := by rw [List.length_append]; exact ho2
            have hfin := RL.fresh (k := k + 1) ho3 z1 z2 (hB.trans z3) (by rw [List.append_assoc]; exact HQ.out) (by rw [List.length_append]; simp; omega)
            obtain ⟨a2, c2, rfl, _, _⟩ := shp (SlV.ofOwn ho3) (n := ls.length + 1) (by simp [HL.out])
            have HF := Away.mk hfin
            clear ho2 ho3 z1 z2 z3 hfin hg2 hoA hone
            go_wp2
            go_roundw
            case rel => exact ⟨k + 1, by omega, by go_num, HF.out⟩
            case measure => simp; omega
      · rw [lns_step _ _ hx] at heq
        have hxe : (x == 10) = false := by simpa using hx
        have hmore := fun v1 w2 h2 hg => RL.more (x := x) (k := k) (v1 := v1) (w2 := w2) ho hls hlt hacc hwM hMw hB hg h2 heq hak hlk
        have HM := Away.mk hmore
        have hoA := own_below hacc ((Below.refl _ wr).alloc (Nat.le_refl _) (.cells #[.int .u8 x] 5))
        have hone := SlV_one wr (.int .u8 x) 5
        have hbA := ((Below.refl wr.heap.size wr).alloc (Nat.le_refl _) (.cells #[.int .u8 x] 5)).size
        clear ho hls hlt hmore heq hsl hacc
        go_wp2_with (refine wpList_append_sl rfl (.tmp 20) (.tmp 25) 22 rfl M 5 _ 1 Tryd.underlying22 inf8 rfl _ _ _ rfl hoA _ _ rfl hone (by simp [Value.oneCell']) (by unfold maxLen; simp; omega) (by simp; omega) (by omega) ?_)
        intro v1 w2 ho2 hg2
        have hfin := HM.out v1 w2 ho2 hg2
        have HF := Away.mk hfin
        obtain ⟨a2, c2, rfl, _, _⟩ := shp (SlV.ofOwn ho2) (n := acc.length + 1) (by simp [U_length])
        clear ho2 hg2 hfin hoA hone
        go_wp2
        go_roundw
        case rel => exact ⟨k + 1, by omega, by go_num, HF.out⟩
        case measure => simp; omega

theorem refcanon_any (v : Value) (xs : List Int) (w : World) (hS : SlV w v (U xs)) (hb : Byt xs) (hl : xs.length ≤ 1000) :
    Calls Tryd.prog 14 #[v] w fun e w' => ∃ v', e = .returned v' ∧ w'.ownsRow w.heap.size 5 1 v' (canon xs).length (U (canon xs)) ∧ Below w.heap.size w w' := by
  have hcon := reflines_any v xs w hS hb hl
  have hn := lines_few xs
  obtain ⟨a, cap, rfl, _, _⟩ := hS.shapeU rfl
  go_enter Tryd.func14, Tryd.ntmps14
  go_wp2_with (go_at_call 10; refine hcon.mono ?_; rintro e w1 ⟨v1, vs, rfl, ho, hls, hB⟩)
  have hcon2 := refjoined_any v1 vs (lines xs) w1 (SlV.ofOwn ho) (Lr.ofLs hls) (by omega) (fun l hl' => by have := lines_short xs l hl'; omega) ⟨#[13, 10]⟩ [13, 10] cells_crlf (by simp)
  obtain ⟨a1, c1, rfl, _, _⟩ := shp (SlV.ofOwn ho) hls.length
  go_wp2_with (go_at_call 25; refine hcon2.mono ?_; rintro e w2 ⟨v2, rfl, ho2, hB2⟩)
  go_ret
  exact ⟨v2, rfl, own_base ho2 hB.size, hB.trans (hB2.mono hB.size)⟩
theorem refplain_any (v : Value) (xs : List Int) (w : World) (hS : SlV w v (U xs)) (hb : Byt xs) (hl : xs.length ≤ 1000) :
    Calls Tryd.prog 16 #[v] w fun e w' => ∃ v', e = .returned v' ∧ w'.ownsRow w.heap.size 5 1 v' (plain xs).length (U (plain xs)) ∧ Below w.heap.size w w' := by
  have hcon := reflines_any v xs w hS hb hl
  have hn := lines_few xs
  obtain ⟨a, cap, rfl, _, _⟩ := hS.shapeU rfl
  go_enter Tryd.func16, Tryd.ntmps16
  go_wp2_with (go_at_call 10; refine hcon.mono ?_; rintro e w1 ⟨v1, vs, rfl, ho, hls, hB⟩)
  have hcon2 := refjoined_any v1 vs (lines xs) w1 (SlV.ofOwn ho) (Lr.ofLs hls) (by omega) (fun l hl' => by have := lines_short xs l hl'; omega) ⟨#[10]⟩ [10] cells_lf (by simp)
  obtain ⟨a1, c1, rfl, _, _⟩ := shp (SlV.ofOwn ho) hls.length
  go_wp2_with (go_at_call 25; refine hcon2.mono ?_; rintro e w2 ⟨v2, rfl, ho2, hB2⟩)
  go_ret
  exact ⟨v2, rfl, own_base ho2 hB.size, hB.trans (hB2.mono hB.size)⟩

set_option maxHeartbeats 2000000 in
theorem refsigned_any (v : Value) (xs : List Int) (w : World) (hS : SlV w v (U xs)) (hb : Byt xs) (hl : xs.length ≤ 1000) :
    Calls Tryd.prog 18 #[v] w fun e w' => ∃ v', e = .returned v' ∧ w'.ownsRow w.heap.size 5 1 v' (signed xs).length (U (signed xs)) ∧ Below w.heap.size w w' := by
  have hcon := reflines_any v xs w hS hb hl
  have hn := lines_few xs
  have hsh := lines_short xs
  have hby := lines_byt hb
  rw [show signed xs = jn [13, 10] ((lines xs).map trim) from rfl]
  generalize lines xs = ls at *
  obtain ⟨n, hnn⟩ : ∃ n, ls.length = n := ⟨_, rfl⟩
  rw [hnn] at hcon hn
  obtain ⟨a, cap, rfl, _, _⟩ := hS.shapeU rfl
  go_enter Tryd.func18, Tryd.ntmps18
  go_wp2_with (go_at_call 10; refine hcon.mono ?_; rintro e w1 ⟨v1, vs, rfl, ho, hls, hB⟩)
  have hls1 := hls.length
  rw [hnn] at hls1
  obtain ⟨a1, c1, rfl, _, _⟩ := shp (SlV.ofOwn ho) hls1
  have hS1 := SlV.ofOwn ho
  have hr1 := Lr.ofLs hls
  have hA : Below w1.heap.size w1 (w1.alloc (.cells #[] 22)) := (Below.refl _ _).alloc (Nat.le_refl _) _
  have hoA := own_empty w1 w1.heap.size 22 (Nat.le_refl _)
  clear ho hls
  go_wp2
  go_loopw [4, 5] (fun o i wr => ∃ (k : Nat) (us : List Value), k ≤ n ∧ i = .int .i64 k ∧ wr.ownsRow w1.heap.size 22 1 o k us ∧ Ls wr w1.heap.size us ((ls.take k).map trim) ∧ Below w1.heap.size w1 wr) (fun _ i _ => match i with | .int _ k => n - k.toNat | _ => 0)
  case atStart => exact ⟨0, [], by omega, rfl, hoA, trivial, hA⟩
  case round =>
    obtain ⟨k, us, hk, rfl, hok, hlk, hBk⟩ := hrel
    have hlu := hlk.length
    rw [List.length_map, List.length_take, Nat.min_eq_left (by omega)] at hlu
    obtain ⟨oa, oc, rfl, _, _⟩ := shp (SlV.ofOwn hok) hlu
    by_cases hkl : k = n
    · subst hkl
      have ht : ls.take k = ls := List.take_of_length_le (by omega)
      rw [ht] at hlk
      clear ht
      have hcon2 := refjoined_any _ us (ls.map trim) wr (SlV.ofOwn hok) (Lr.ofLs hlk) (by rw [List.length_map]; omega) (fun l hl' => by
        obtain ⟨z, hz, rfl⟩ := List.mem_map.1 hl'
        have := trim_length z; have := hsh z hz; omega) ⟨#[13, 10]⟩ [13, 10] cells_crlf (by simp)
      clear hok hlk
      go_wp2_with (go_at_call 25; refine hcon2.mono ?_; rintro e w2 ⟨v2, rfl, ho2, hB2⟩)
      go_ret
      have h3 := hB.trans (hBk.mono hB.size)
      exact ⟨v2, rfl, own_base ho2 h3.size, h3.trans (hB2.mono h3.size)⟩
    · have hk1 : k < ls.length := by omega
      obtain ⟨u, g1, s1⟩ := hr1.get k hk1
      obtain ⟨bk, off, rfl, _, f1⟩ := (hS1.below hBk).cells (by omega)
      have d1 := f1 k u g1
      have hmem := List.getElem_mem hk1
      have hlx := hsh _ hmem
      have hcon2 := reftrim_any u ls[k] wr (s1.below hBk) (hby _ hmem) (by omega)
      have t1 : (ls.take (k + 1)).map trim = (ls.take k).map trim ++ [trim ls[k]] := by rw [take_snoc hk1, List.map_append]; rfl
      have htl := trim_length ls[k]
      obtain ⟨ua, uc, rfl, _, _⟩ := s1.shapeU rfl
      have HO := Away.mk hok
      have HK := Away.mk hlk
      have T1 := Away.mk t1
      clear f1 hok hlk t1
      generalize ls[k] = l at *
      go_wp2_with fail
      refine hcon2.mono ?_
      rintro _ w2 ⟨v2, rfl, ho2, hB2⟩
      obtain ⟨a2, c2, rfl, _, _⟩ := (SlV.ofOwn ho2).shapeU rfl
      have hA3 : Below w2.heap.size w2 (w2.alloc (.cells #[.slice a2 (trim l).length c2] 22)) := (Below.refl _ w2).alloc (Nat.le_refl _) _
      have ho3 := own_below (own_below HO.out hB2) hA3
      have hone := SlV_one w2 (.slice a2 (trim l).length c2) 22
      have hsz : w1.heap.size ≤ wr.heap.size := hBk.size
      have hsz2 := hB2.size
      have hsz3 := hA3.size
      have hput := fun w3 hg => ls_put (w2 := w3) (own_below HO.out hB2) (Ls.imp (fun _ _ h => own_below h hB2) HK.out) (M := wr.heap.size) (fun z hz b hbz => by
        obtain ⟨i, hi⟩ := List.mem_iff_getElem?.1 hz
        have hil : i < ((ls.take k).map trim).length := by rw [← HK.out.length]; exact (List.getElem?_eq_some_iff.1 hi).1
        obtain ⟨z', hz', hoz⟩ := HK.out.get i hil
        rw [hi] at hz'; cases hz'
        exact (hoz.lt b hbz).2) (acc := trim l) (line := .slice a2 (trim l).length c2) ho2 (by omega) hsz2 hg
      have HP := Away.mk hput
      clear hput ho2 hS1 hr1
      go_wp2_with (refine wpList_append_sl rfl (.tmp 15) (.tmp 21) 24 rfl w1.heap.size 22 _ 24 Tryd.underlying24 inf22 rfl _ _ _ rfl ho3 _ _ rfl hone (by simp [Value.oneCell']) (by unfold maxLen; simp; omega) (by simp; omega) (by omega) ?_)
      intro v3 w3 ho4 hg4
      obtain ⟨z1, z2, z3⟩ := HP.out w3 hg4
      rw [← T1.out] at z1
      have ho5 : w3.ownsRow w1.heap.size 22 1 v3 (k + 1) (us ++ [.slice a2 (trim l).length c2]) := ho4
      have HO5 := Away.mk ho5
      obtain ⟨a4, c4, rfl, _, _⟩ := shp (SlV.ofOwn ho5) (n := k + 1) (by simp [hlu])
      have hB4 := (hBk.trans (hB2.mono hBk.size)).trans z3
      clear ho4 ho5 hg4 hone ho3 z3 z2
      go_wp2
      go_roundw
      case rel => exact ⟨k + 1, _, by omega, by go_num, HO5.out, z1, hB4⟩
      case measure => simp; omega
end Go.Proofs.YtcllmkfaifalgaaDoor.T
