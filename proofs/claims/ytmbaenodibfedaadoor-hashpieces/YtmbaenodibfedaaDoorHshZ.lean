/-
  A hash: Write, Sum, Len, Copy. Over this seat's translation. Conditions: as each says.
-/
import Derived.Test.YtmbaenodibfedaaDoorHshY
import Derived.Test.YtmbaenodibfedaaDoorHshN
namespace Go.Proofs.YtmbaenodibfedaaDoor.S9
open Go.RowKit
set_option linter.unusedVariables false
set_option maxRecDepth 10000

theorem isNone_some (hp : Nat) (T : TypeId) (x : Value) (w : World) (hc : w.cell? ⟨hp, 0, none⟩ = some (.iface T x)) : Calls Tryd.prog 28 #[.pointer (some ⟨hp, 0, none⟩)] w fun e w' => e = .returned (.bool false) ∧ w = w' := by
  have hq : ∀ w, (binOp .eql 53 (.iface T x) .nilIface).run Tryd.prog w = .ok (.bool false) w := fun _ => by rfl
  go_enter Tryd.func28, Tryd.ntmps28
  go_wp2
  go_ret
  exact ⟨rfl, rfl⟩
section
variable (hp q : Nat) (v : Value) (s0 : S1.S5) (bs : List Nat) (size : Nat) (w : World)
theorem hlen_1 (hr : Row w hp 56 [.iface 75 (.pointer (some ⟨q, 0, none⟩))]) (hk : W1.KI w q v s0 bs bs.length size) :
    Calls Tryd.prog 18 #[.pointer (some ⟨hp, 0, none⟩)] w fun e w' => e = .returned (.int .u64 (bs.length : Int)) ∧ w = w' := by
  have hc : w.cell? ⟨hp, 0, none⟩ = some (.iface 75 (.pointer (some ⟨q, 0, none⟩))) := hr.cell 0
  go_enter Tryd.func18, Tryd.ntmps18
  go_wp2_with fail
  refine (isNone_some _ _ _ _ hc).mono ?_
  rintro _ w1 ⟨rfl, rfl⟩
  go_wp2_with fail
  refine (W1.length_any q v s0 bs _ size w hk).mono ?_
  rintro _ w1 ⟨rfl, rfl⟩
  clear hk hr
  go_wp2
  go_ret
  exact ⟨rfl, rfl⟩
theorem hsum_1 (hs0 : s0.ok) (hbs : Lo 256 bs) (hm : bs.length < 1152921504606846000) (hsz : size ≤ 20) (hT : Tabs w) (hr : Row w hp 56 [.iface 75 (.pointer (some ⟨q, 0, none⟩))]) (hk : W1.KI w q v s0 bs bs.length size) :
    Calls Tryd.prog 17 #[.pointer (some ⟨hp, 0, none⟩)] w fun e w' => ∃ v', e = .returned v' ∧ w'.ownsRow w.heap.size 5 1 v' size (C .u8 ((S1.out1 (now S1.blk1 64 s0 (bs ++ pdg 64 8 bs.length))).take size)) ∧ Below w.heap.size w w' := by
  have hc : w.cell? ⟨hp, 0, none⟩ = some (.iface 75 (.pointer (some ⟨q, 0, none⟩))) := hr.cell 0
  have HM := Away.mk hm
  clear hm
  go_enter Tryd.func17, Tryd.ntmps17
  go_wp2_with fail
  refine (isNone_some _ _ _ _ hc).mono ?_
  rintro _ w1 ⟨rfl, rfl⟩
  go_wp2_with fail
  refine (W1.sum_any q v s0 hs0 bs hbs HM.out size hsz w hk hT).mono ?_
  rintro _ w1 ⟨v1, rfl, ho, hb⟩
  clear hk hr
  have HO := Away.mk ho
  clear ho
  go_wp2
  go_ret
  exact ⟨_, rfl, HO.out, hb⟩
theorem hwrite_1 (hs0 : s0.ok) (hbs : Lo 256 bs) (hr : Row w hp 56 [.iface 75 (.pointer (some ⟨q, 0, none⟩))]) (hk : W1.KI w q v s0 bs bs.length size)
    (bv : Value) (ys : List Nat) (hy : Lo 256 ys) (hsl : SlV w bv (C .u8 ys)) (hn1 : 0 < ys.length → bv.ownBlock ≠ some q) (hn2 : 0 < ys.length → bv.ownBlock = none ∨ bv.ownBlock ≠ v.ownBlock) (hm : bs.length + ys.length < 1152921504606846976) (hT : Tabs w) :
    Calls Tryd.prog 16 #[.pointer (some ⟨hp, 0, none⟩), bv] w fun e w' => e = .returned (.tuple #[]) ∧ ∃ v', W1.KI w' q v' s0 (bs ++ ys) (bs ++ ys).length size ∧ Kp q v.ownBlock w w' ∧ (v'.ownBlock = v.ownBlock ∨ ∀ k, v'.ownBlock = some k → w.heap.size ≤ k) := by
  have hc : w.cell? ⟨hp, 0, none⟩ = some (.iface 75 (.pointer (some ⟨q, 0, none⟩))) := hr.cell 0
  have HM := Away.mk hm
  clear hm
  go_enter Tryd.func16, Tryd.ntmps16
  go_wp2_with fail
  refine (isNone_some _ _ _ _ hc).mono ?_
  rintro _ w1 ⟨rfl, rfl⟩
  go_wp2_with fail
  refine (W1.write_any q v s0 hs0 bs size w hk hbs bv ys hy hsl hn1 hn2 HM.out hT).mono ?_
  rintro _ w1 ⟨rfl, v1, hI, hkp, hv⟩
  go_wp2
  go_returns
  exact ⟨rfl, v1, hI, hkp, hv⟩
theorem hcopy_1 (hr : Row w hp 56 [.iface 75 (.pointer (some ⟨q, 0, none⟩))]) (hk : W1.KI w q v s0 bs bs.length size) :
    Calls Tryd.prog 15 #[.pointer (some ⟨hp, 0, none⟩)] w fun e w' => ∃ hp' q' v', e = .returned (.pointer (some ⟨hp', 0, none⟩)) ∧ Row w' hp' 56 [.iface 75 (.pointer (some ⟨q', 0, none⟩))] ∧ W1.KI w' q' v' s0 bs bs.length size ∧ w.heap.size ≤ hp' ∧ w.heap.size ≤ q' ∧ (∀ k, v'.ownBlock = some k → w.heap.size ≤ k) ∧ Below w.heap.size w w' := by
  have hc : w.cell? ⟨hp, 0, none⟩ = some (.iface 75 (.pointer (some ⟨q, 0, none⟩))) := hr.cell 0
  go_enter Tryd.func15, Tryd.ntmps15
  go_wp2_with fail
  refine (isNone_some _ _ _ _ hc).mono ?_
  rintro _ w1 ⟨rfl, rfl⟩
  go_wp2_with fail
  refine (W1.copied_any q v s0 bs _ size w hk).mono ?_
  rintro _ w1 ⟨q1, v1, rfl, hI, hq, hv, hb⟩
  have hN := Row.new w1 56 [.iface 75 (.pointer (some ⟨q1, 0, none⟩))]
  have hL := Below.more (Below.refl w1.heap.size w1) (Nat.le_refl _) (.cells [Value.iface 75 (.pointer (some ⟨q1, 0, none⟩))].toArray 56)
  have hI2 := hI.below hL.1
  have hb2 := hb.trans (hL.1.mono hb.size)
  have hsz := hb.size
  clear hk hr hL hI hb
  go_wp2
  go_ret
  exact ⟨_, _, _, rfl, hN, hI2, hsz, hq, hv, hb2⟩
end
section
variable (hp q : Nat) (v : Value) (s0 : S2.S8) (bs : List Nat) (size : Nat) (w : World)
theorem hlen_2 (hr : Row w hp 56 [.iface 79 (.pointer (some ⟨q, 0, none⟩))]) (hk : W2.KI w q v s0 bs bs.length size) :
    Calls Tryd.prog 18 #[.pointer (some ⟨hp, 0, none⟩)] w fun e w' => e = .returned (.int .u64 (bs.length : Int)) ∧ w = w' := by
  have hc : w.cell? ⟨hp, 0, none⟩ = some (.iface 79 (.pointer (some ⟨q, 0, none⟩))) := hr.cell 0
  go_enter Tryd.func18, Tryd.ntmps18
  go_wp2_with fail
  refine (isNone_some _ _ _ _ hc).mono ?_
  rintro _ w1 ⟨rfl, rfl⟩
  go_wp2_with fail
  refine (W2.length_any q v s0 bs _ size w hk).mono ?_
  rintro _ w1 ⟨rfl, rfl⟩
  clear hk hr
  go_wp2
  go_ret
  exact ⟨rfl, rfl⟩
theorem hsum_2 (hs0 : s0.ok) (hbs : Lo 256 bs) (hm : bs.length < 1152921504606846000) (hsz : size ≤ 32) (hT : Tabs w) (hr : Row w hp 56 [.iface 79 (.pointer (some ⟨q, 0, none⟩))]) (hk : W2.KI w q v s0 bs bs.length size) :
    Calls Tryd.prog 17 #[.pointer (some ⟨hp, 0, none⟩)] w fun e w' => ∃ v', e = .returned v' ∧ w'.ownsRow w.heap.size 5 1 v' size (C .u8 ((S2.out2 (now S2.blk2 64 s0 (bs ++ pdg 64 8 bs.length))).take size)) ∧ Below w.heap.size w w' := by
  have hc : w.cell? ⟨hp, 0, none⟩ = some (.iface 79 (.pointer (some ⟨q, 0, none⟩))) := hr.cell 0
  have HM := Away.mk hm
  clear hm
  go_enter Tryd.func17, Tryd.ntmps17
  go_wp2_with fail
  refine (isNone_some _ _ _ _ hc).mono ?_
  rintro _ w1 ⟨rfl, rfl⟩
  go_wp2_with fail
  refine (W2.sum_any q v s0 hs0 bs hbs HM.out size hsz w hk hT).mono ?_
  rintro _ w1 ⟨v1, rfl, ho, hb⟩
  clear hk hr
  have HO := Away.mk ho
  clear ho
  go_wp2
  go_ret
  exact ⟨_, rfl, HO.out, hb⟩
theorem hwrite_2 (hs0 : s0.ok) (hbs : Lo 256 bs) (hr : Row w hp 56 [.iface 79 (.pointer (some ⟨q, 0, none⟩))]) (hk : W2.KI w q v s0 bs bs.length size)
    (bv : Value) (ys : List Nat) (hy : Lo 256 ys) (hsl : SlV w bv (C .u8 ys)) (hn1 : 0 < ys.length → bv.ownBlock ≠ some q) (hn2 : 0 < ys.length → bv.ownBlock = none ∨ bv.ownBlock ≠ v.ownBlock) (hm : bs.length + ys.length < 1152921504606846976) (hT : Tabs w) :
    Calls Tryd.prog 16 #[.pointer (some ⟨hp, 0, none⟩), bv] w fun e w' => e = .returned (.tuple #[]) ∧ ∃ v', W2.KI w' q v' s0 (bs ++ ys) (bs ++ ys).length size ∧ Kp q v.ownBlock w w' ∧ (v'.ownBlock = v.ownBlock ∨ ∀ k, v'.ownBlock = some k → w.heap.size ≤ k) := by
  have hc : w.cell? ⟨hp, 0, none⟩ = some (.iface 79 (.pointer (some ⟨q, 0, none⟩))) := hr.cell 0
  have HM := Away.mk hm
  clear hm
  go_enter Tryd.func16, Tryd.ntmps16
  go_wp2_with fail
  refine (isNone_some _ _ _ _ hc).mono ?_
  rintro _ w1 ⟨rfl, rfl⟩
  go_wp2_with fail
  refine (W2.write_any q v s0 hs0 bs size w hk hbs bv ys hy hsl hn1 hn2 HM.out hT).mono ?_
  rintro _ w1 ⟨rfl, v1, hI, hkp, hv⟩
  go_wp2
  go_returns
  exact ⟨rfl, v1, hI, hkp, hv⟩
theorem hcopy_2 (hr : Row w hp 56 [.iface 79 (.pointer (some ⟨q, 0, none⟩))]) (hk : W2.KI w q v s0 bs bs.length size) :
    Calls Tryd.prog 15 #[.pointer (some ⟨hp, 0, none⟩)] w fun e w' => ∃ hp' q' v', e = .returned (.pointer (some ⟨hp', 0, none⟩)) ∧ Row w' hp' 56 [.iface 79 (.pointer (some ⟨q', 0, none⟩))] ∧ W2.KI w' q' v' s0 bs bs.length size ∧ w.heap.size ≤ hp' ∧ w.heap.size ≤ q' ∧ (∀ k, v'.ownBlock = some k → w.heap.size ≤ k) ∧ Below w.heap.size w w' := by
  have hc : w.cell? ⟨hp, 0, none⟩ = some (.iface 79 (.pointer (some ⟨q, 0, none⟩))) := hr.cell 0
  go_enter Tryd.func15, Tryd.ntmps15
  go_wp2_with fail
  refine (isNone_some _ _ _ _ hc).mono ?_
  rintro _ w1 ⟨rfl, rfl⟩
  go_wp2_with fail
  refine (W2.copied_any q v s0 bs _ size w hk).mono ?_
  rintro _ w1 ⟨q1, v1, rfl, hI, hq, hv, hb⟩
  have hN := Row.new w1 56 [.iface 79 (.pointer (some ⟨q1, 0, none⟩))]
  have hL := Below.more (Below.refl w1.heap.size w1) (Nat.le_refl _) (.cells [Value.iface 79 (.pointer (some ⟨q1, 0, none⟩))].toArray 56)
  have hI2 := hI.below hL.1
  have hb2 := hb.trans (hL.1.mono hb.size)
  have hsz := hb.size
  clear hk hr hL hI hb
  go_wp2
  go_ret
  exact ⟨_, _, _, rfl, hN, hI2, hsz, hq, hv, hb2⟩
end
section
variable (hp q : Nat) (v : Value) (s0 : S3.S8) (bs : List Nat) (size : Nat) (w : World)
theorem hlen_3 (hr : Row w hp 56 [.iface 83 (.pointer (some ⟨q, 0, none⟩))]) (hk : W3.KI w q v s0 bs bs.length size) :
    Calls Tryd.prog 18 #[.pointer (some ⟨hp, 0, none⟩)] w fun e w' => e = .returned (.int .u64 (bs.length : Int)) ∧ w = w' := by
  have hc : w.cell? ⟨hp, 0, none⟩ = some (.iface 83 (.pointer (some ⟨q, 0, none⟩))) := hr.cell 0
  go_enter Tryd.func18, Tryd.ntmps18
  go_wp2_with fail
  refine (isNone_some _ _ _ _ hc).mono ?_
  rintro _ w1 ⟨rfl, rfl⟩
  go_wp2_with fail
  refine (W3.length_any q v s0 bs _ size w hk).mono ?_
  rintro _ w1 ⟨rfl, rfl⟩
  clear hk hr
  go_wp2
  go_ret
  exact ⟨rfl, rfl⟩
theorem hsum_3 (hs0 : s0.ok) (hbs : Lo 256 bs) (hm : bs.length < 1152921504606846000) (hsz : size ≤ 64) (hT : Tabs w) (hr : Row w hp 56 [.iface 83 (.pointer (some ⟨q, 0, none⟩))]) (hk : W3.KI w q v s0 bs bs.length size) :
    Calls Tryd.prog 17 #[.pointer (some ⟨hp, 0, none⟩)] w fun e w' => ∃ v', e = .returned v' ∧ w'.ownsRow w.heap.size 5 1 v' size (C .u8 ((S3.out3 (now S3.blk3 128 s0 (bs ++ pdg 128 16 bs.length))).take size)) ∧ Below w.heap.size w w' := by
  have hc : w.cell? ⟨hp, 0, none⟩ = some (.iface 83 (.pointer (some ⟨q, 0, none⟩))) := hr.cell 0
  have HM := Away.mk hm
  clear hm
  go_enter Tryd.func17, Tryd.ntmps17
  go_wp2_with fail
  refine (isNone_some _ _ _ _ hc).mono ?_
  rintro _ w1 ⟨rfl, rfl⟩
  go_wp2_with fail
  refine (W3.sum_any q v s0 hs0 bs hbs HM.out size hsz w hk hT).mono ?_
  rintro _ w1 ⟨v1, rfl, ho, hb⟩
  clear hk hr
  have HO := Away.mk ho
  clear ho
  go_wp2
  go_ret
  exact ⟨_, rfl, HO.out, hb⟩
theorem hwrite_3 (hs0 : s0.ok) (hbs : Lo 256 bs) (hr : Row w hp 56 [.iface 83 (.pointer (some ⟨q, 0, none⟩))]) (hk : W3.KI w q v s0 bs bs.length size)
    (bv : Value) (ys : List Nat) (hy : Lo 256 ys) (hsl : SlV w bv (C .u8 ys)) (hn1 : 0 < ys.length → bv.ownBlock ≠ some q) (hn2 : 0 < ys.length → bv.ownBlock = none ∨ bv.ownBlock ≠ v.ownBlock) (hm : bs.length + ys.length < 1152921504606846976) (hT : Tabs w) :
    Calls Tryd.prog 16 #[.pointer (some ⟨hp, 0, none⟩), bv] w fun e w' => e = .returned (.tuple #[]) ∧ ∃ v', W3.KI w' q v' s0 (bs ++ ys) (bs ++ ys).length size ∧ Kp q v.ownBlock w w' ∧ (v'.ownBlock = v.ownBlock ∨ ∀ k, v'.ownBlock = some k → w.heap.size ≤ k) := by
  have hc : w.cell? ⟨hp, 0, none⟩ = some (.iface 83 (.pointer (some ⟨q, 0, none⟩))) := hr.cell 0
  have HM := Away.mk hm
  clear hm
  go_enter Tryd.func16, Tryd.ntmps16
  go_wp2_with fail
  refine (isNone_some _ _ _ _ hc).mono ?_
  rintro _ w1 ⟨rfl, rfl⟩
  go_wp2_with fail
  refine (W3.write_any q v s0 hs0 bs size w hk hbs bv ys hy hsl hn1 hn2 HM.out hT).mono ?_
  rintro _ w1 ⟨rfl, v1, hI, hkp, hv⟩
  go_wp2
  go_returns
  exact ⟨rfl, v1, hI, hkp, hv⟩
theorem hcopy_3 (hr : Row w hp 56 [.iface 83 (.pointer (some ⟨q, 0, none⟩))]) (hk : W3.KI w q v s0 bs bs.length size) :
    Calls Tryd.prog 15 #[.pointer (some ⟨hp, 0, none⟩)] w fun e w' => ∃ hp' q' v', e = .returned (.pointer (some ⟨hp', 0, none⟩)) ∧ Row w' hp' 56 [.iface 83 (.pointer (some ⟨q', 0, none⟩))] ∧ W3.KI w' q' v' s0 bs bs.length size ∧ w.heap.size ≤ hp' ∧ w.heap.size ≤ q' ∧ (∀ k, v'.ownBlock = some k → w.heap.size ≤ k) ∧ Below w.heap.size w w' := by
  have hc : w.cell? ⟨hp, 0, none⟩ = some (.iface 83 (.pointer (some ⟨q, 0, none⟩))) := hr.cell 0
  go_enter Tryd.func15, Tryd.ntmps15
  go_wp2_with fail
  refine (isNone_some _ _ _ _ hc).mono ?_
  rintro _ w1 ⟨rfl, rfl⟩
  go_wp2_with fail
  refine (W3.copied_any q v s0 bs _ size w hk).mono ?_
  rintro _ w1 ⟨q1, v1, rfl, hI, hq, hv, hb⟩
  have hN := Row.new w1 56 [.iface 83 (.pointer (some ⟨q1, 0, none⟩))]
  have hL := Below.more (Below.refl w1.heap.size w1) (Nat.le_refl _) (.cells [Value.iface 83 (.pointer (some ⟨q1, 0, none⟩))].toArray 56)
  have hI2 := hI.below hL.1
  have hb2 := hb.trans (hL.1.mono hb.size)
  have hsz := hb.size
  clear hk hr hL hI hb
  go_wp2
  go_ret
  exact ⟨_, _, _, rfl, hN, hI2, hsz, hq, hv, hb2⟩
end
theorem len_any {a : Int} {hp q : Nat} {v : Value} {bs : List Nat} {w : World} (h : HI w a hp q v bs) :
    Calls Tryd.prog 18 #[.pointer (some ⟨hp, 0, none⟩)] w fun e w' => e = .returned (.int .u64 (bs.length : Int)) ∧ w = w' := by
  obtain ⟨_, ⟨ha, hr, hk⟩ | ⟨ha, hr, hk⟩ | ⟨ha, hr, hk⟩⟩ := h
  · exact hlen_1 hp q v _ bs _ w hr hk
  · exact hlen_2 hp q v _ bs _ w hr hk
  · exact hlen_3 hp q v _ bs _ w hr hk
theorem hsum_any {a : Int} {hp q : Nat} {v : Value} {bs : List Nat} {w : World} (h : HI w a hp q v bs) (hbs : Lo 256 bs) (hm : bs.length < 1152921504606846000) (hT : Tabs w) :
    Calls Tryd.prog 17 #[.pointer (some ⟨hp, 0, none⟩)] w fun e w' => ∃ v', e = .returned v' ∧ w'.ownsRow w.heap.size 5 1 v' (siz a) (C .u8 (dig a bs)) ∧ Below w.heap.size w w' := by
  obtain ⟨_, ⟨ha, hr, hk⟩ | ⟨ha, hr, hk⟩ | ⟨ha, hr, hk⟩⟩ := h
  · subst ha
    have := hsum_1 hp q v _ bs 20 w S1.start1_ok hbs hm (by decide) hT hr hk
    rw [tells1 bs (by omega)] at this
    exact this
  · have := hsum_2 hp q v _ bs (siz a) w (S2.start2_ok _) hbs hm (by rcases ha with rfl | rfl <;> decide) hT hr hk
    rw [tells2a a ha bs (by omega)] at this
    exact this
  · have := hsum_3 hp q v _ bs (siz a) w (S3.start3_ok _) hbs hm (by rcases ha with rfl | rfl <;> decide) hT hr hk
    rw [tells3a a ha bs (by omega)] at this
    exact this
theorem hwrite_any {a : Int} {hp q : Nat} {v : Value} {bs : List Nat} {w : World} (h : HI w a hp q v bs) (hbs : Lo 256 bs) (bv : Value) (ys : List Nat) (hy : Lo 256 ys) (hsl : SlV w bv (C .u8 ys)) (hn1 : 0 < ys.length → bv.ownBlock ≠ some q) (hn2 : 0 < ys.length → bv.ownBlock = none ∨ bv.ownBlock ≠ v.ownBlock) (hm : bs.length + ys.length < 1152921504606846976) (hT : Tabs w) :
    Calls Tryd.prog 16 #[.pointer (some ⟨hp, 0, none⟩), bv] w fun e w' => e = .returned (.tuple #[]) ∧ ∃ v', HI w' a hp q v' (bs ++ ys) ∧ Kp q v.ownBlock w w' ∧ (v'.ownBlock = v.ownBlock ∨ ∀ k, v'.ownBlock = some k → w.heap.size ≤ k) := by
  obtain ⟨_, _, _, _, hne, hne2, _⟩ := h.lt
  obtain ⟨h2, ⟨ha, hr, hk⟩ | ⟨ha, hr, hk⟩ | ⟨ha, hr, hk⟩⟩ := h
  · refine (hwrite_1 hp q v _ bs _ w S1.start1_ok hbs hr hk bv ys hy hsl hn1 hn2 hm hT).mono ?_
    rintro _ w' ⟨rfl, v', hI, hkp, hv⟩
    exact ⟨rfl, v', ⟨h2, .inl ⟨ha, hkp.row hr hne (fun e => hne2 e.symm), hI⟩⟩, hkp, hv⟩
  · refine (hwrite_2 hp q v _ bs _ w (S2.start2_ok _) hbs hr hk bv ys hy hsl hn1 hn2 hm hT).mono ?_
    rintro _ w' ⟨rfl, v', hI, hkp, hv⟩
    exact ⟨rfl, v', ⟨h2, .inr (.inl ⟨ha, hkp.row hr hne (fun e => hne2 e.symm), hI⟩)⟩, hkp, hv⟩
  · refine (hwrite_3 hp q v _ bs _ w (S3.start3_ok _) hbs hr hk bv ys hy hsl hn1 hn2 hm hT).mono ?_
    rintro _ w' ⟨rfl, v', hI, hkp, hv⟩
    exact ⟨rfl, v', ⟨h2, .inr (.inr ⟨ha, hkp.row hr hne (fun e => hne2 e.symm), hI⟩)⟩, hkp, hv⟩
theorem hcopy_any {a : Int} {hp q : Nat} {v : Value} {bs : List Nat} {w : World} (h : HI w a hp q v bs) :
    Calls Tryd.prog 15 #[.pointer (some ⟨hp, 0, none⟩)] w fun e w' => ∃ hp' q' v', e = .returned (.pointer (some ⟨hp', 0, none⟩)) ∧ HI w' a hp' q' v' bs ∧ w.heap.size ≤ hp' ∧ w.heap.size ≤ q' ∧ (∀ k, v'.ownBlock = some k → w.heap.size ≤ k) ∧ Below w.heap.size w w' := by
  have hl := h.lt.1
  obtain ⟨h2, ⟨ha, hr, hk⟩ | ⟨ha, hr, hk⟩ | ⟨ha, hr, hk⟩⟩ := h
  · refine (hcopy_1 hp q v _ bs _ w hr hk).mono ?_
    rintro _ w' ⟨hp', q', v', rfl, hr', hI, h3, h4, h5, hb⟩
    exact ⟨hp', q', v', rfl, ⟨by omega, .inl ⟨ha, hr', hI⟩⟩, h3, h4, h5, hb⟩
  · refine (hcopy_2 hp q v _ bs _ w hr hk).mono ?_
    rintro _ w' ⟨hp', q', v', rfl, hr', hI, h3, h4, h5, hb⟩
    exact ⟨hp', q', v', rfl, ⟨by omega, .inr (.inl ⟨ha, hr', hI⟩)⟩, h3, h4, h5, hb⟩
  · refine (hcopy_3 hp q v _ bs _ w hr hk).mono ?_
    rintro _ w' ⟨hp', q', v', rfl, hr', hI, h3, h4, h5, hb⟩
    exact ⟨hp', q', v', rfl, ⟨by omega, .inr (.inr ⟨ha, hr', hI⟩)⟩, h3, h4, h5, hb⟩
end Go.Proofs.YtmbaenodibfedaaDoor.S9
