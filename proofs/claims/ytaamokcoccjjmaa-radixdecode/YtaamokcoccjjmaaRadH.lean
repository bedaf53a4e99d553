/-
  The contract of bytesOf over this seat's translation. Conditions: two to four letters.
-/
import Derived.Test.YtaamokcoccjjmaaRadF
namespace Go.Proofs.Ytaamokcoccjjmaa
open Go.RowKit
set_option linter.unusedVariables false

/-- The number of the first k of four letters. -/
def accL (g : List UInt8) : Nat → Int
  | 0 => 0
  | k + 1 => accL g k * 64 + (match g[k]? with | some c => val c | none => 0)
/-- Are the first k letters? -/
def okL (g : List UInt8) (k : Nat) : Prop := ∀ i c, i < k → g[i]? = some c → 0 ≤ val c
theorem accL_bd {g : List UInt8} (k : Nat) (hk : k ≤ 4) (h : okL g k) : 0 ≤ accL g k ∧ (k < 4 → accL g k < 262144) ∧ accL g k < 16777216 := by
  have hd : ∀ i, i < k → 0 ≤ (match g[i]? with | some c => val c | none => 0) ∧ (match g[i]? with | some c => val c | none => 0) < 64 := by
    intro i hi
    cases e : g[i]? with
    | none => simp
    | some c => exact ⟨h i c hi e, val_lt c⟩
  have hk' : k = 0 ∨ k = 1 ∨ k = 2 ∨ k = 3 ∨ k = 4 := by omega
  rcases hk' with rfl | rfl | rfl | rfl | rfl
  · simp [accL]
  · have := hd 0 (by omega); simp only [accL]; omega
  · have := hd 0 (by omega); have := hd 1 (by omega); simp only [accL]; omega
  · have := hd 0 (by omega); have := hd 1 (by omega); have := hd 2 (by omega); simp only [accL]; omega
  · have := hd 0 (by omega); have := hd 1 (by omega); have := hd 2 (by omega); have := hd 3 (by omega); simp only [accL]; omega
theorem or6 (n x : Int) (h0 : 0 ≤ n) (hn : n < 262144) (x0 : 0 ≤ x) (hx : x < 64) : bits .or .u32 (n * 64) x = n * 64 + x := by
  rw [u32_or _ _ (by omega) (by omega) (by omega) (by omega)]
  obtain ⟨a, rfl⟩ := Int.eq_ofNat_of_zero_le h0
  obtain ⟨b, rfl⟩ := Int.eq_ofNat_of_zero_le x0
  have e : (((a : Int) * 64).toNat) = 2 ^ 6 * a := by omega
  rw [e, Int.toNat_natCast, ← Nat.two_pow_add_eq_or_of_lt (by omega) a]
  omega
/-- The bytes of four letters' number. -/
def by3 (N : Int) (i : Nat) : Int := N / 2 ^ (8 * (2 - i)) % 256
/-- The three cells behind k rounds. -/
def out3 (N : Int) : Nat → Array Value
  | 0 => #[.int .u8 0, .int .u8 0, .int .u8 0]
  | 1 => #[.int .u8 (by3 N 0), .int .u8 0, .int .u8 0]
  | 2 => #[.int .u8 (by3 N 0), .int .u8 (by3 N 1), .int .u8 0]
  | _ => #[.int .u8 (by3 N 0), .int .u8 (by3 N 1), .int .u8 (by3 N 2)]
/-- Four letters, or the last two or three: may they be? -/
def grpOk (g : List UInt8) : Prop := okL g 4 ∧ ∀ i, i < 3 → g.length - 1 ≤ i → by3 (accL g 4) i = 0

theorem okL_succ {g : List UInt8} {k : Nat} (h : okL g k) (h' : ∀ c, g[k]? = some c → 0 ≤ val c) : okL g (k + 1) := by
  intro i c hi hc
  by_cases e : i = k
  · subst e; exact h' c hc
  · exact h i c (by omega) hc
theorem zero_succ {N : Int} {m k : Nat} (h : ∀ i, i < k → m ≤ i → by3 N i = 0) (h' : m ≤ k → by3 N k = 0) : ∀ i, i < k + 1 → m ≤ i → by3 N i = 0 := by
  intro i hi hm
  by_cases e : i = k
  · subst e; exact h' hm
  · exact h i (by omega) hm
set_option maxHeartbeats 400000 in
theorem bytesOf_any (s : ByteArray) (g : List UInt8) (hg : s.data.toList = g) (w : World) (h2 : 2 ≤ g.length) (h4 : g.length ≤ 4) :
    Calls Try.prog 23 #[.string s] w fun e w' => (∃ b0 b1 b2 : Int, e = .returned (.tuple #[.agg #[.int .u8 b0, .int .u8 b1, .int .u8 b2], .bool false]) ∧ ¬ grpOk g ∧ Below w.heap.size w w') ∨ (e = .returned (.tuple #[.agg #[.int .u8 (by3 (accL g 4) 0), .int .u8 (by3 (accL g 4) 1), .int .u8 (by3 (accL g 4) 2)], .bool true]) ∧ grpOk g ∧ Below w.heap.size w w') := by
  have hsz : s.size = g.length := by
    rw [← hg, Array.length_toList]; rfl
  go_enter Try.func23, Try.ntmps23
  go_wp2
  go_loop [4, 8] (fun n i => ∃ k : Nat, k ≤ 4 ∧ i = .int .i64 k ∧ n = .int .u32 (accL g k) ∧ okL g k) (fun _ i => 4 - (intOf i).toNat)
  case atStart => exact ⟨0, Nat.zero_le _, rfl, rfl, fun i c h => by omega⟩
  case round =>
    obtain ⟨k, hk, rfl, rfl, hok⟩ := hrel
    by_cases hlt : k < 4
    · have hbd := accL_bd k hk hok
      by_cases hl : k < g.length
      · have hgk : g[k]? = some g[k] := List.getElem?_eq_getElem hl
        have hsk : s[k]'(by omega) = g[k] := by subst hg; rfl
        have HA : Hid (accL g (k + 1) = accL g k * 64 + val g[k]) := by simp [Hid, accL, hl]
        have hvl := val_lt g[k]
        have hvg := val_ge g[k]
        have HOK := hide hok
        have HGK := hide hgk
        clear hok hgk
        generalize hc : g[k] = c at *
        have HC := hide hc
        clear hc
        generalize hn : accL g k = n at *
        clear hn
        by_cases hv : 0 ≤ val c
        · have ho := or6 n (val c) hbd.1 (hbd.2.1 hlt) hv hvl
          go_wp2_with (go_at_call 15; refine (value_any c _).mono ?_; rintro e w' ⟨rfl, rfl⟩)
          exact ⟨⟨k + 1, by omega, by go_num, by rw [unhide HA], okL_succ (unhide HOK) (fun c' h => by rw [unhide HGK] at h; cases h; exact hv)⟩, by simp [intOf]; omega⟩
        · have hno : ¬ grpOk g := fun h => hv (h.1 k c hlt (unhide HGK))
          go_wp2_with (go_at_call 15; refine (value_any c _).mono ?_; rintro e w' ⟨rfl, rfl⟩)
          refine bodyPost_ret (v := .tuple #[.agg #[.int .u8 0, .int .u8 0, .int .u8 0], .bool false]) (by simp [results, Try.results23, go_sem]) rfl (.inl ⟨_, _, _, rfl, hno, ?_⟩)
          exact (Below.refl _ _).alloc (Nat.le_refl _) _
      · have HA : Hid (accL g (k + 1) = accL g k * 64) := by simp [Hid, accL, List.getElem?_eq_none (Nat.le_of_not_lt hl)]
        have HN := hide (List.getElem?_eq_none (Nat.le_of_not_lt hl))
        have HOK := hide hok
        clear hok
        generalize hn : accL g k = n at *
        clear hn
        go_wp2
        exact ⟨⟨k + 1, by omega, by go_num, by rw [unhide HA], okL_succ (unhide HOK) (fun c' h => by rw [unhide HN] at h; cases h)⟩, by simp [intOf]; omega⟩
    · obtain rfl : k = 4 := by omega
      have hbd := accL_bd 4 (Nat.le_refl _) hok
      have HOK := hide hok
      have hN0 := hbd.1
      have hN1 := hbd.2.2
      clear hok hbd
      have HG : Hid (grpOk g ↔ okL g 4 ∧ ∀ i, i < 3 → g.length - 1 ≤ i → by3 (accL g 4) i = 0) := Iff.rfl
      generalize hNe : accL g 4 = N at *
      have HE := hide hNe
      clear hNe
      go_wp2
      go_loopw [29] (fun i wr => ∃ k : Nat, k ≤ 3 ∧ i = .int .i64 k ∧ wr = w.alloc (.cells (out3 N k) 47) ∧ ∀ i, i < k → g.length - 1 ≤ i → by3 N i = 0) (fun i _ => 3 - (intOf i).toNat)
      case atStart => exact ⟨0, Nat.zero_le _, rfl, rfl, fun i h => by omega⟩
      case round =>
        obtain ⟨k, hk, rfl, rfl, hz⟩ := hrel
        have HZ := hide hz
        clear hz
        have hk' : k = 0 ∨ k = 1 ∨ k = 2 ∨ k = 3 := by omega
        have E0 : Hid (by3 N 0 = N / 65536) := by unfold Hid by3; simp; omega
        have E1 : Hid (by3 N 1 = N / 256 % 256) := by unfold Hid by3; simp
        have E2 : Hid (by3 N 2 = N % 256) := by unfold Hid by3; simp
        rcases hk' with rfl | rfl | rfl | rfl
        · have d1 : decide ((g.length : Int) - 1 ≤ 0) = false := by simp; omega
          simp only [out3]
          go_wp2
          refine ⟨⟨1, by omega, rfl, ?_, ?_⟩, by decide⟩
          · show _ = w.alloc (.cells #[.int .u8 (by3 N 0), .int .u8 0, .int .u8 0] 47)
            rw [unhide E0]
          · exact zero_succ (unhide HZ) (fun h => by omega)
        · rw [show out3 N 1 = #[.int .u8 (by3 N 0), .int .u8 0, .int .u8 0] from rfl, unhide E0]
          by_cases hc : g.length - 1 ≤ 1
          · have d1 : decide ((g.length : Int) - 1 ≤ 1) = true := by simp; omega
            by_cases hz : by3 N 1 = 0
            · have HZ0 := hide hz
              rw [unhide E1] at hz
              have d2 : (N / 256 % 256 != 0) = false := by simp; omega
              clear hz
              go_wp2
              refine ⟨⟨2, by omega, rfl, ?_, ?_⟩, by decide⟩
              · show _ = w.alloc (.cells #[.int .u8 (by3 N 0), .int .u8 (by3 N 1), .int .u8 0] 47)
                rw [unhide E0, unhide E1]
              · exact zero_succ (unhide HZ) (fun _ => unhide HZ0)
            · have hno : ¬ grpOk g := fun h => hz (((unhide HG).1 h).2 1 (by omega) hc)
              rw [unhide E1] at hz
              have d2 : (N / 256 % 256 != 0) = true := by simp; omega
              go_wp2
              refine bodyPost_ret (v := .tuple #[.agg #[.int .u8 (N / 65536), .int .u8 (N / 256 % 256), .int .u8 0], .bool false]) (by simp [results, Try.results23, go_sem]) rfl (.inl ⟨_, _, _, rfl, hno, ?_⟩)
              exact (Below.refl _ _).alloc (Nat.le_refl _) _
          · have d1 : decide ((g.length : Int) - 1 ≤ 1) = false := by simp; omega
            go_wp2
            refine ⟨⟨2, by omega, rfl, ?_, ?_⟩, by decide⟩
            · show _ = w.alloc (.cells #[.int .u8 (by3 N 0), .int .u8 (by3 N 1), .int .u8 0] 47)
              rw [unhide E0, unhide E1]
            · exact zero_succ (unhide HZ) (fun h => absurd h hc)
        · rw [show out3 N 2 = #[.int .u8 (by3 N 0), .int .u8 (by3 N 1), .int .u8 0] from rfl, unhide E0, unhide E1]
          by_cases hc : g.length - 1 ≤ 2
          · have d1 : decide ((g.length : Int) - 1 ≤ 2) = true := by simp; omega
            by_cases hz : by3 N 2 = 0
            · have HZ0 := hide hz
              rw [unhide E2] at hz
              have d2 : (N % 256 != 0) = false := by simp; omega
              clear hz
              go_wp2
              refine ⟨⟨3, by omega, rfl, ?_, ?_⟩, by decide⟩
              · show _ = w.alloc (.cells #[.int .u8 (by3 N 0), .int .u8 (by3 N 1), .int .u8 (by3 N 2)] 47)
                rw [unhide E0, unhide E1, unhide E2]
              · exact zero_succ (unhide HZ) (fun _ => unhide HZ0)
            · have hno : ¬ grpOk g := fun h => hz (((unhide HG).1 h).2 2 (by omega) hc)
              rw [unhide E2] at hz
              have d2 : (N % 256 != 0) = true := by simp; omega
              go_wp2
              refine bodyPost_ret (v := .tuple #[.agg #[.int .u8 (N / 65536), .int .u8 (N / 256 % 256), .int .u8 (N % 256)], .bool false]) (by simp [results, Try.results23, go_sem]) rfl (.inl ⟨_, _, _, rfl, hno, ?_⟩)
              exact (Below.refl _ _).alloc (Nat.le_refl _) _
          · have d1 : decide ((g.length : Int) - 1 ≤ 2) = false := by simp; omega
            go_wp2
            refine ⟨⟨3, by omega, rfl, ?_, ?_⟩, by decide⟩
            · show _ = w.alloc (.cells #[.int .u8 (by3 N 0), .int .u8 (by3 N 1), .int .u8 (by3 N 2)] 47)
              rw [unhide E0, unhide E1, unhide E2]
            · exact zero_succ (unhide HZ) (fun h => absurd h hc)
        · have hyes : grpOk g := (unhide HG).2 ⟨unhide HOK, unhide HZ⟩
          rw [show out3 N 3 = #[.int .u8 (by3 N 0), .int .u8 (by3 N 1), .int .u8 (by3 N 2)] from rfl]
          go_wp2
          refine bodyPost_ret (v := .tuple #[.agg #[.int .u8 (by3 N 0), .int .u8 (by3 N 1), .int .u8 (by3 N 2)], .bool true]) (by simp [results, Try.results23, go_sem]) rfl (.inr ⟨by rw [unhide HE], hyes, ?_⟩)
          exact (Below.refl _ _).alloc (Nat.le_refl _) _
end Go.Proofs.Ytaamokcoccjjmaa
