/-
  Contracts of From, size, filled, Bytes, Fill, Read, Bit, over this seat's translation. Conditions: at most 100000 words.
-/
import Derived.Test.YtdpahahfcdldcaaDoorNatS2
import Derived.Test.YtdpahahfcdldcaaDoorNatM3
namespace Go.Proofs.YtdpahahfcdldcaaDoor
open Go.RowKit
set_option linter.unusedVariables false

theorem Tryd.info5 : (Tryd.prog.info? 5).map (fun i => (i.zero, i.size, i.bytes)) = some (some (.int .u8 0), 1, 1) := by kernel_rfl
theorem Tryd.size5 : (Tryd.prog.info? 5).map (·.size) = some 1 := by kernel_rfl

theorem from_any (n : Nat) (hn : n < 18446744073709551616) (w : World) :
    Calls Tryd.prog 64 #[.int .u64 (n : Int)] w fun e w' => ∃ v', e = .returned v' ∧ Ans w.heap.size w' v' n ∧ Below w.heap.size w w' := by
  have hr := Row.new w 55 (C .u32 [n % 4294967296, n / 4294967296])
  have ht := trimmed_new w.heap.size w.heap.size [n % 4294967296, n / 4294967296] _ hr (Nat.le_refl _) (by intro x hx; show x < 4294967296; simp at hx; rcases hx with rfl | rfl <;> omega) (by simp)
  have hv : val W32 [n % 4294967296, n / 4294967296] = n := by simp only [val, W32]; omega
  rw [hv] at ht
  simp only [C, List.map_cons, List.map_nil, List.length_cons, List.length_nil, Nat.zero_add, Nat.reduceAdd] at ht
  have HT := Away.mk ht
  clear ht hr hv
  go_enter Tryd.func64, Tryd.ntmps64
  go_wp2_with fail
  rw [show (n : Int) % 4294967296 = ((n % 4294967296 : Nat) : Int) by simp, show (n : Int) / 4294967296 = ((n / 4294967296 : Nat) : Int) by simp]
  refine HT.out.mono ?_
  rintro _ w6 ⟨v', rfl, hans, hb6⟩
  go_wp2
  go_ret
  have hb := (Below.refl w.heap.size w).alloc (Nat.le_refl _) (.cells #[.int .u32 ((n % 4294967296 : Nat) : Int), .int .u32 ((n / 4294967296 : Nat) : Int)] 55)
  exact ⟨_, rfl, hans, hb.trans (hb6.mono hb.size)⟩
end Go.Proofs.YtdpahahfcdldcaaDoor
