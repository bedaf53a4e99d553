/-
  Contracts of takeWord, addTimes, takeTimes, over this seat's translation. Conditions: at most 1000000 words.
-/
import Derived.Test.YtdpahahfcdldcaaDoorNatB
import Derived.Test.YtdpahahfcdldcaaDoorNatM2
namespace Go.Proofs.YtdpahahfcdldcaaDoor
open Go.RowKit
set_option linter.unusedVariables false

theorem set_mid {α : Type} (pre mid post : List α) (k : Nat) (hk : k < mid.length) (z : α) : (pre ++ (mid ++ post)).set (pre.length + k) z = pre ++ (mid.set k z ++ post) := by
  rw [List.set_append_right _ _ (by omega), Nat.add_sub_cancel_left, List.set_append_left _ _ hk]
theorem get_mid {α : Type} (pre mid post : List α) (k : Nat) (hk : k < mid.length) : (pre ++ (mid ++ post))[pre.length + k]? = mid[k]? := by
  rw [List.getElem?_append_right (by omega), Nat.add_sub_cancel_left, List.getElem?_append_left hk]

/-- Block g holds words, among them those of a window at 'off'. -/
def Wnd (w : World) (g off : Nat) (pre mid post : List Nat) : Prop := Row w g 55 (C .u32 (pre ++ (mid ++ post))) ∧ pre.length = off
theorem Wnd.cell {w : World} {g off : Nat} {pre mid post : List Nat} (h : Wnd w g off pre mid post) {k : Nat} (hk : k < mid.length) : w.cell? ⟨g, off + k, none⟩ = some (.int .u32 (mid.getD k 0 : Nat)) := by
  rw [h.1.cell, ← h.2]
  have := get_mid pre mid post k hk
  simp only [C, List.getElem?_map, this, List.getElem?_eq_getElem hk, List.getD]
  rfl
theorem Wnd.set {w : World} {g off : Nat} {pre mid post : List Nat} (h : Wnd w g off pre mid post) {k : Nat} (hk : k < mid.length) (z : Nat) : Wnd (w.setCell ⟨g, off + k, none⟩ (.int .u32 (z : Int))) g off pre (mid.set k z) post := by
  refine ⟨?_, h.2⟩
  have := h.1.set (off + k) (.int .u32 (z : Int))
  rwa [← C_set, ← h.2, set_mid _ _ _ _ hk, h.2] at this
theorem Wnd.frozen {w : World} {g off : Nat} {pre mid post : List Nat} (h : Wnd w g off pre mid post) (k : Nat) : w.frozen? ⟨g, k, none⟩ = false := h.1.frozen k

theorem wrapU (x : Int) : IntKind.u64.wrap x = x % 18446744073709551616 := by simp [IntKind.wrap, IntKind.signed, IntKind.bits]
theorem mul_bound {x y : Nat} (hx : x < 4294967296) (hy : y < 4294967296) : x * y ≤ 18446744065119617025 := by
  have := Nat.mul_le_mul (Nat.le_of_lt_succ (by omega : x < 4294967295 + 1)) (Nat.le_of_lt_succ (by omega : y < 4294967295 + 1))
  omega
theorem takeWord_any (g off m cap k n f : Nat) (w : World) (hk : k < m) (hm : m ≤ 1000000) (hc : m ≤ cap) (hn : n < 18446744073709551616) (hf : f < 4294967296)
    (hcell : w.cell? ⟨g, off + k, none⟩ = some (.int .u32 (f : Int))) (hfr : w.frozen? ⟨g, off + k, none⟩ = false) :
    Calls Tryd.prog 63 #[.slice (some ⟨g, off, none⟩) m cap, .int .i64 (k : Int), .int .u64 (n : Int)] w fun e w' => ∃ f' c : Nat, e = .returned (.int .u64 (c : Int)) ∧ f' < 4294967296 ∧ f' + n = f + 4294967296 * c ∧ w' = w.setCell ⟨g, off + k, none⟩ (.int .u32 (f' : Int)) := by
  go_enter Tryd.func63, Tryd.ntmps63
  go_wp2
  go_ret
  simp only [wrapU]
  obtain ⟨x, hx⟩ : ∃ x : Nat, (x : Int) = ((f : Int) - (n : Int) % 4294967296) % 18446744073709551616 := ⟨_, Int.toNat_of_nonneg (Int.emod_nonneg _ (by decide))⟩
  rw [← hx]
  refine ⟨x % 4294967296, n / 4294967296 + x / 9223372036854775808, ?_, by omega, by omega, ?_⟩
  · refine ret_int ?_
    rw [Int.natCast_add, Int.natCast_ediv, Int.natCast_ediv]
    omega
  · rw [Int.natCast_emod]; rfl

set_option maxHeartbeats 1000000 in
theorem addTimes_any (g off m cap y : Nat) (v : Value) (pre mid post xs : List Nat) (w : World) (hW : Wnd w g off pre mid post) (hml : mid.length = m) (hlo : Lo W32 mid) (hm : m ≤ 1000000) (hcap : m ≤ cap) (hcm : cap ≤ maxLen)
    (hs : SlV w v (C .u32 xs)) (hxl : Lo W32 xs) (hx : xs.length ≤ m) (hne : 0 < xs.length → ∀ b, v.ownBlock = some b → b ≠ g) (hy : y < 4294967296) :
    Calls Tryd.prog 45 #[.slice (some ⟨g, off, none⟩) m cap, v, .int .u32 (y : Int)] w fun e w' => ∃ (mid' : List Nat) (c : Nat), (∃ u, e = .returned u) ∧ Wnd w' g off pre mid' post ∧ mid'.length = m ∧ Lo W32 mid' ∧ val W32 mid' + W32 ^ m * c = val W32 mid + y * val W32 xs ∧ w.grownBy w' (some g) := by
  obtain ⟨a, xc, hv, hxc, hxm⟩ := hs.shape
  rw [C_length] at hv hxc
  subst hv
  obtain ⟨n, hn⟩ : ∃ n, xs.length = n := ⟨_, rfl⟩
  rw [hn] at hs hx hxc hne ⊢
  go_enter Tryd.func45, Tryd.ntmps45
  go_wp2
  go_loopw [6, 12] (fun cv iv wr => ∃ (k c : Nat) (mid' : List Nat), k ≤ n ∧ iv = .int .i64 (k : Int) ∧ cv = .int .u64 (c : Int) ∧ c < 4294967296 ∧ mid'.length = m ∧ Lo W32 mid' ∧ mid'.drop k = mid.drop k ∧
      val W32 (mid'.take k) + W32 ^ k * c = val W32 (mid.take k) + y * val W32 (xs.take k) ∧ Wnd wr g off pre mid' post ∧ w.grownBy wr (some g)) (fun _ i _ => n - (intOf i).toNat)
  case atStart => exact ⟨0, 0, mid, Nat.zero_le _, rfl, rfl, by decide, hml, hlo, rfl, by simp [val], hW, grown_refl _ _⟩
  case round =>
    obtain ⟨k, c, mid', hk, rfl, rfl, hc, hl', hlo', hdrop, hval, hW', hg'⟩ := hrel
    by_cases hlt : k < n
    · obtain ⟨b, xo, rfl, hb, hcx⟩ := (hs.grown hg' (fun b e h => hne (by omega) b e (by cases h; rfl))).cells (by rw [C_length]; omega)
      have hck := hcx k _ (C_get _ (by omega))
      have hct := hW'.cell (k := k) (by omega)
      have hfr := hW'.frozen (off + k)
      have hxb : xs.getD k 0 < 4294967296 := hxl.getD (by decide) k
      have htb : mid'.getD k 0 < 4294967296 := hlo'.getD (by decide) k
      have hvs := val_take_succ (B := W32) xs k
      have hvm := val_take_succ (B := W32) mid k
      have hmk : mid.getD k 0 = mid'.getD k 0 := by
        have := congrArg (fun l => l.getD 0 0) hdrop
        simp only [getD_drop, Nat.add_zero] at this
        exact this.symm
      rw [hmk] at hvm
      generalize xs.getD k 0 = x at *
      generalize ht : mid'.getD k 0 = t at *
      have hpb := mul_bound hxb hy
      have hpe : (x : Int) * (y : Int) = ((x * y : Nat) : Int) := by simp
      have HM := Away.mk (show Away (x * y = x * y) from ⟨rfl⟩)
      obtain ⟨p, hp⟩ : ∃ p, x * y = p := ⟨_, rfl⟩
      rw [hp] at hpb hpe
      have HP := Away.mk hp
      have H1 := Away.mk hval; have H2 := Away.mk hvs; have H3 := Away.mk hvm; have H4 := Away.mk hdrop; have H5 := Away.mk ht; have H6 := Away.mk hmk
      clear hp hcx hs hval hvs hvm hdrop ht hmk HM hne hW
      go_wp2
      go_roundw
      case rel =>
        have hp := HP.out
        refine ⟨k + 1, (c + (p + t)) / 4294967296, mid'.set k ((c + (p + t)) % 4294967296), by omega, by go_num, by simp, by omega, by simp [hl'], hlo'.set _ _ (Nat.mod_lt _ (by decide)), ?_, ?_, ?_, grown_tr hg' (grown_set _ _ _ _)⟩
        · rw [drop_set_succ]; exact drop_succ_of H4.out
        · rw [val_take_set (by omega), H2.out, H3.out, Nat.pow_succ]
          exact add_step _ _ _ _ _ _ _ _ _ H1.out (by rw [hp])
        · have := hW'.set (k := k) (by omega) ((c + (p + t)) % 4294967296)
          simpa using this
      case measure => simp [intOf]; omega
    · obtain rfl : k = n := by omega
      rw [List.take_of_length_le (by omega : xs.length ≤ k)] at hval
      clear hs hW
      have HD := Away.mk hdrop; have HV := Away.mk hval
      clear hdrop hval
      go_wp2
      go_loopw [6, 9] (fun cv iv wr => ∃ (i c : Nat) (mid' : List Nat), i ≤ m ∧ iv = .int .i64 (i : Int) ∧ cv = .int .u64 (c : Int) ∧ c < 4294967296 ∧ mid'.length = m ∧ Lo W32 mid' ∧ mid'.drop i = mid.drop i ∧
          val W32 (mid'.take i) + W32 ^ i * c = val W32 (mid.take i) + y * val W32 xs ∧ Wnd wr g off pre mid' post ∧ w.grownBy wr (some g)) (fun _ i _ => m - (intOf i).toNat)
      case atStart => exact ⟨k, c, mid', by omega, rfl, rfl, hc, hl', hlo', HD.out, HV.out, hW', hg'⟩
      case round =>
        clear HD HV hW' hg' hl' hlo' hc
        obtain ⟨i, c, mid', hi, rfl, rfl, hc, hl', hlo', hdrop, hval, hW', hg'⟩ := hrel
        by_cases hlt : i < m
        · by_cases hc0 : 0 < c
          · have hct := hW'.cell (k := i) (by omega)
            have hfr := hW'.frozen (off + i)
            have htb : mid'.getD i 0 < 4294967296 := hlo'.getD (by decide) i
            have hvm := val_take_succ (B := W32) mid i
            rw [← getD_of_drop hdrop] at hvm
            generalize ht : mid'.getD i 0 = t at *
            have H1 := Away.mk hval; have H3 := Away.mk hvm; have H4 := Away.mk hdrop; have H5 := Away.mk ht
            clear hval hvm hdrop ht hne
            go_wp2
            go_roundw
            case rel =>
              refine ⟨i + 1, (c + t) / 4294967296, mid'.set i ((c + t) % 4294967296), by omega, by go_num, by simp, by omega, by simp [hl'], hlo'.set _ _ (Nat.mod_lt _ (by decide)), ?_, ?_, ?_, grown_tr hg' (grown_set _ _ _ _)⟩
              · rw [drop_set_succ]; exact drop_succ_of H4.out
              · rw [val_take_set (by omega), H3.out, Nat.pow_succ]
                exact carry_step _ _ _ _ _ _ _ H1.out rfl
              · have := hW'.set (k := i) (by omega) ((c + t) % 4294967296)
                simpa using this
            case measure => simp [intOf]; omega
          · obtain rfl : c = 0 := by omega
            have hw := val_whole (B := W32) hdrop (by omega) (by omega)
            have HV := Away.mk hval; have HW := Away.mk hw
            clear hval hw hdrop hne
            go_wp2
            go_end0
            have h1 := HV.out; have h2 := HW.out
            exact ⟨mid', 0, ⟨_, rfl⟩, hW', hl', hlo', by omega, hg'⟩
        · obtain rfl : i = m := by omega
          rw [List.take_of_length_le (by omega), List.take_of_length_le (by omega)] at hval
          have HV := Away.mk hval
          clear hval hdrop hne
          go_wp2
          go_end0
          exact ⟨mid', c, ⟨_, rfl⟩, hW', hl', hlo', HV.out, hg'⟩

set_option maxHeartbeats 1000000 in
theorem takeTimes_any (g off m cap y : Nat) (v : Value) (pre mid post xs : List Nat) (w : World) (hW : Wnd w g off pre mid post) (hml : mid.length = m) (hlo : Lo W32 mid) (hm : m ≤ 1000000) (hcap : m ≤ cap) (hcm : cap ≤ maxLen)
    (hs : SlV w v (C .u32 xs)) (hxl : Lo W32 xs) (hx : xs.length ≤ m) (hne : 0 < xs.length → ∀ b, v.ownBlock = some b → b ≠ g) (hy : y < 4294967296) :
    Calls Tryd.prog 50 #[.slice (some ⟨g, off, none⟩) m cap, v, .int .u32 (y : Int)] w fun e w' => ∃ (mid' : List Nat) (c : Nat), e = .returned (.bool (decide (0 < c))) ∧ Wnd w' g off pre mid' post ∧ mid'.length = m ∧ Lo W32 mid' ∧ val W32 mid' + y * val W32 xs = val W32 mid + W32 ^ m * c ∧ w.grownBy w' (some g) := by
  obtain ⟨a, xc, hv, hxc, hxm⟩ := hs.shape
  rw [C_length] at hv hxc
  subst hv
  obtain ⟨n, hn⟩ : ∃ n, xs.length = n := ⟨_, rfl⟩
  rw [hn] at hs hx hxc hne ⊢
  go_enter Tryd.func50, Tryd.ntmps50
  go_wp2
  go_loopw [7, 13] (fun cv iv wr => ∃ (k c : Nat) (mid' : List Nat), k ≤ n ∧ iv = .int .i64 (k : Int) ∧ cv = .int .u64 (c : Int) ∧ c < 4294967296 ∧ mid'.length = m ∧ Lo W32 mid' ∧ mid'.drop k = mid.drop k ∧
      val W32 (mid'.take k) + y * val W32 (xs.take k) = val W32 (mid.take k) + W32 ^ k * c ∧ Wnd wr g off pre mid' post ∧ w.grownBy wr (some g)) (fun _ i _ => n - (intOf i).toNat)
  case atStart => exact ⟨0, 0, mid, Nat.zero_le _, rfl, rfl, by decide, hml, hlo, rfl, by simp [val], hW, grown_refl _ _⟩
  case round =>
    obtain ⟨k, c, mid', hk, rfl, rfl, hc, hl', hlo', hdrop, hval, hW', hg'⟩ := hrel
    by_cases hlt : k < n
    · obtain ⟨b, xo, rfl, hb, hcx⟩ := (hs.grown hg' (fun b e h => hne (by omega) b e (by cases h; rfl))).cells (by rw [C_length]; omega)
      have hck := hcx k _ (C_get _ (by omega))
      have hct := hW'.cell (k := k) (by omega)
      have hfr := hW'.frozen (off + k)
      have hxb : xs.getD k 0 < 4294967296 := hxl.getD (by decide) k
      have htb : mid'.getD k 0 < 4294967296 := hlo'.getD (by decide) k
      have hvs := val_take_succ (B := W32) xs k
      have hvm := val_take_succ (B := W32) mid k
      rw [← getD_of_drop hdrop] at hvm
      generalize xs.getD k 0 = x at *
      generalize ht : mid'.getD k 0 = t at *
      have hpb := mul_bound hxb hy
      have hpe : (x : Int) * (y : Int) = ((x * y : Nat) : Int) := by simp
      obtain ⟨p, hp⟩ : ∃ p, x * y = p := ⟨_, rfl⟩
      rw [hp] at hpb hpe
      have HP := Away.mk hp
      have H1 := Away.mk hval; have H2 := Away.mk hvs; have H3 := Away.mk hvm; have H4 := Away.mk hdrop; have H5 := Away.mk ht
      have HT := Away.mk (takeWord_any g off m cap k (c + p) t wr (by omega) hm hcap (by omega) htb hct hfr)
      clear hp hcx hs hval hvs hvm hdrop ht hne hW hct hfr
      go_wp2_with fail
      rw [show (c : Int) + (p : Int) = ((c + p : Nat) : Int) by simp]
      refine HT.out.mono ?_
      rintro _ w' ⟨f', c', rfl, hf', he, rfl⟩
      have hbd : c' < 4294967296 := by omega
      have HE := Away.mk he
      clear he HT
      go_wp2
      go_roundw
      case rel =>
        have hp := HP.out
        refine ⟨k + 1, c', mid'.set k f', by omega, by go_num, rfl, hbd, by simp [hl'], hlo'.set _ _ hf', ?_, ?_, ?_, grown_tr hg' (grown_set _ _ _ _)⟩
        · rw [drop_set_succ]; exact drop_succ_of H4.out
        · rw [val_take_set (by omega), H2.out, H3.out, Nat.pow_succ]
          exact take_step _ _ _ _ _ _ _ _ _ _ _ H1.out (by rw [hp]) HE.out
        · exact hW'.set (k := k) (by omega) f'
      case measure => simp [intOf]; omega
    · obtain rfl : k = n := by omega
      rw [List.take_of_length_le (by omega : xs.length ≤ k)] at hval
      clear hs hW
      have HD := Away.mk hdrop; have HV := Away.mk hval
      clear hdrop hval
      go_wp2
      go_loopw [7, 10] (fun cv iv wr => ∃ (i c : Nat) (mid' : List Nat), i ≤ m ∧ iv = .int .i64 (i : Int) ∧ cv = .int .u64 (c : Int) ∧ c < 4294967296 ∧ mid'.length = m ∧ Lo W32 mid' ∧ mid'.drop i = mid.drop i ∧
          val W32 (mid'.take i) + y * val W32 xs = val W32 (mid.take i) + W32 ^ i * c ∧ Wnd wr g off pre mid' post ∧ w.grownBy wr (some g)) (fun _ i _ => m - (intOf i).toNat)
      case atStart => exact ⟨k, c, mid', by omega, rfl, rfl, hc, hl', hlo', HD.out, HV.out, hW', hg'⟩
      case round =>
        clear HD HV hW' hg' hl' hlo' hc
        obtain ⟨i, c, mid', hi, rfl, rfl, hc, hl', hlo', hdrop, hval, hW', hg'⟩ := hrel
        by_cases hlt : i < m
        · by_cases hc0 : 0 < c
          · have hct := hW'.cell (k := i) (by omega)
            have hfr := hW'.frozen (off + i)
            have htb : mid'.getD i 0 < 4294967296 := hlo'.getD (by decide) i
            have hvm := val_take_succ (B := W32) mid i
            rw [← getD_of_drop hdrop] at hvm
            generalize ht : mid'.getD i 0 = t at *
            have H1 := Away.mk hval; have H3 := Away.mk hvm; have H4 := Away.mk hdrop; have H5 := Away.mk ht
            have HT := Away.mk (takeWord_any g off m cap i c t wr (by omega) hm hcap (by omega) htb hct hfr)
            clear hval hvm hdrop ht hne hct hfr
            go_wp2_with fail
            refine HT.out.mono ?_
            rintro _ w' ⟨f', c', rfl, hf', he, rfl⟩
            have hbd : c' < 4294967296 := by omega
            have HE := Away.mk he
            clear he HT
            go_wp2
            go_roundw
            case rel =>
              refine ⟨i + 1, c', mid'.set i f', by omega, by go_num, rfl, hbd, by simp [hl'], hlo'.set _ _ hf', ?_, ?_, ?_, grown_tr hg' (grown_set _ _ _ _)⟩
              · rw [drop_set_succ]; exact drop_succ_of H4.out
              · rw [val_take_set (by omega), H3.out, Nat.pow_succ]
                exact borrow_step _ _ _ _ _ _ _ _ H1.out HE.out
              · exact hW'.set (k := i) (by omega) f'
            case measure => simp [intOf]; omega
          · obtain rfl : c = 0 := by omega
            have hw := val_whole (B := W32) hdrop (by omega) (by omega)
            have HV := Away.mk hval; have HW := Away.mk hw
            clear hval hw hdrop hne
            go_wp2
            go_ret
            have h1 := HV.out; have h2 := HW.out
            exact ⟨mid', 0, by simp, hW', hl', hlo', by omega, hg'⟩
        · obtain rfl : i = m := by omega
          rw [List.take_of_length_le (by omega : mid'.length ≤ i), List.take_of_length_le (by omega : mid.length ≤ i)] at hval
          have HV := Away.mk hval
          clear hval hdrop hne
          go_wp2
          go_ret
          exact ⟨mid', c, by simp, hW', hl', hlo', HV.out, hg'⟩
end Go.Proofs.YtdpahahfcdldcaaDoor
