/-
  Contracts of the document's Add, less, Sub, times, Shl, over this seat's translation. Conditions: at most 100000 words.
-/
import Derived.Test.YtbefchlgonlfiaaRefD
namespace Go.Proofs.Ytbefchlgonlfiaa
open Go.RowKit
set_option linter.unusedVariables false

set_option maxHeartbeats 1000000 in
theorem times_any (v : Value) (ys : List Nat) (q : Nat) (w : World) (hs : SlV w v (C .u64 ys)) (hl : Lo W16 ys) (hm : ys.length ≤ 300000) (hq : q < 65536) :
    Calls Try.prog 71 #[v, .int .u64 (q : Int)] w fun e w' => ∃ v' es, e = .returned v' ∧ Is W16 (val W16 ys * q) es ∧ es.length ≤ ys.length + 1 ∧ SlV w' v' (C .u64 es) ∧ Below w.heap.size w w' := by
  obtain ⟨n, hn⟩ : ∃ n, ys.length = n := ⟨_, rfl⟩
  have HS := Away.mk hs
  obtain ⟨a, cap, rfl, q1, r1⟩ := hs.shapeC hn
  rw [hn] at hm ⊢
  clear hs
  go_enter Try.func71, Try.ntmps71
  go_wp2
  go_loopw [5, 6, 7] (fun ov cv iv wr => ∃ (k c : Nat) (out : List Nat), k ≤ n + 1 ∧ iv = .int .i64 (k : Int) ∧ cv = .int .u64 (c : Int) ∧ c < 65536 ∧ out.length = k ∧ Lo W16 out ∧ val W16 out + W16 ^ k * c = val W16 (ys.take k) * q ∧ wr.ownsRow w.heap.size 59 1 ov k (C .u64 out) ∧ Below w.heap.size w wr) (fun _ _ i _ => n + 1 - (intOf i).toNat)
  case atStart => exact ⟨0, 0, [], Nat.zero_le _, rfl, rfl, by omega, rfl, Lo.nil _, by simp [val], own_empty w _ _ (Nat.le_refl _), (Below.refl _ _).alloc (Nat.le_refl _) _⟩
  case round =>
    obtain ⟨k, c, out, hk, rfl, rfl, hc, hol, holo, hval, hown, hb⟩ := hrel
    by_cases hlt : k < n + 1
    · have hd1 := digit_any _ ys k wr (HS.out.below hb) (by omega) (by omega)
      have hx1 : ys.getD k 0 < 65536 := hl.getD (by decide) _
      have hv1 := val_take_succ (B := W16) ys k
      generalize ys.getD k 0 = x at *
      have hxq : x * q ≤ 65535 * 65535 := Nat.mul_le_mul (by omega) (by omega)
      obtain ⟨z, hz⟩ : ∃ z, x * q = z := ⟨_, rfl⟩
      have hzi : (x : Int) * (q : Int) = (z : Int) := by rw [← hz]; simp
      rw [hz] at hxq
      obtain ⟨s, hs⟩ : ∃ s, c + z = s := ⟨_, rfl⟩
      obtain ⟨p, hp⟩ : ∃ p, s % 65536 = p := ⟨_, rfl⟩
      have e2 : (c : Int) + z = (s : Int) := by omega
      have hpb : p < 65536 := by omega
      have hsb : s < 4294967296 := by omega
      have e3 : (s : Int) % 65536 = (p : Int) := by omega
      have HD1 := Away.mk hd1; have HV1 := Away.mk hv1; have HV := Away.mk hval; have HO := Away.mk hown; have HB := Away.mk hb; have HL := Away.mk holo; have HSS := Away.mk hs; have HP := Away.mk hp; have HZ := Away.mk hz
      clear hd1 hv1 hval hown hb holo hs hp hz
      go_wp2_with fail
      refine HD1.out.mono ?_
      rintro _ w' ⟨rfl, rfl⟩
      go_wp2_with (at_builtin; refine wpList_append_sl rfl (.tmp 23) (.tmp 26) 65 rfl w.heap.size 59 (.int .u64 0) 8 Try.underlying65 Try.info59 rfl _ k _ rfl (HO.out.alloc _) _ [.int .u64 (p : Int)] rfl (SlV_one _ _ _) (by simp [Value.oneCell']) (by simp; unfold maxLen; omega) (by simp; omega) (by have := HB.out.size; simp; omega) ?_)
      intro v2' w3 hown2 hg2
      have hb2 : Below w.heap.size w w3 := (HB.out.alloc HB.out.size _).grown hg2 (by have := HB.out.size; simp; omega) (fun j e => (HO.out.lt j e).1)
      have HO2 := Away.mk hown2; have HB3 := Away.mk hb2
      clear hown2 hg2 hb2
      go_wp2
      go_roundw
      case rel =>
        refine ⟨k + 1, s / 65536, out ++ [p], by omega, by simp, by simp, by omega, by simp [hol], HL.out.append (by intro u hu; show u < 65536; simp at hu; omega), ?_, by rw [C_append]; exact HO2.out, HB3.out⟩
        rw [val_append, val_one, hol, HV1.out, Nat.pow_succ, ← HP.out]
        have h1 := HV.out
        have h2 := HSS.out
        have h3 := Nat.mod_add_div s 65536
        have h4 := HZ.out
        generalize val W16 out = A at *
        generalize val W16 (ys.take k) = T1 at *
        generalize W16 ^ k = P at *
        simp only [W16]
        generalize s % 65536 = u at *
        generalize s / 65536 = d at *
        subst h4
        subst h2
        grind
      case measure => simp [intOf]; omega
    · obtain rfl : k = n + 1 := by omega
      rw [List.take_of_length_le (by omega)] at hval
      have hyl := val_lt (B := W16) (by decide) hl
      rw [hn] at hyl
      have hfit : val W16 ys * q < W16 ^ (n + 1) := by
        rw [Nat.pow_succ]
        exact Nat.mul_lt_mul'' hyl hq
      have hv := no_carry hval hfit
      have HT := Away.mk (trim_any _ out wr (SlV.ofOwn hown) holo (by omega))
      rw [hv] at HT
      have HBr := Away.mk hb
      clear hval hown hb holo hv hyl hfit
      go_wp2_with fail
      refine HT.out.mono ?_
      rintro _ w6 ⟨v', es, rfl, hI, hle, hs6, rfl⟩
      go_wp2
      go_ret
      have hle' : es.length ≤ n + 1 := by omega
      first | exact ⟨_, es, rfl, hI, hle', hs6, HBr.out⟩ | exact ⟨_, rfl, es, hI, hle', hs6, HBr.out⟩

end Go.Proofs.Ytbefchlgonlfiaa
