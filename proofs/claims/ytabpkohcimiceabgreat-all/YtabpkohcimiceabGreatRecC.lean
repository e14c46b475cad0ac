import Derived.Test.YtabpkohcimiceabGreatFindF
import Derived.Test.YtabpkohcimiceabGreatFindG
import Derived.Test.YtabpkohcimiceabGreatCre
import Derived.Test.YtabpkohcimiceabGreatPlanA
import Derived.WalkKit
import Derived.WalkSpells
import Derived.WalkLawsBesides
import Derived.Deep.RegionWith
namespace Go.Proofs.YtabpkohcimiceabGreat
open Go.RowKit
set_option linter.unusedVariables false

theorem find_any (d : ByteArray) (k : Nat) (w : World) (hk : d.size = k * 32) (hk1 : 1 ≤ k) (hk2 : k ≤ 40) :
    Calls Tryz.prog 64 #[.string d] w fun e w' => FindOut d.data.toList w.heap.size w' e ∧ Below w.heap.size w w' := by
  by_cases h : d.data.toList.take 32 = List.replicate 32 0
  · exact find_zero d k w hk hk1 hk2 h
  · by_cases ho : heldOk d.data.toList
    · exact find_held d k w hk hk1 hk2 h ho
    · exact find_bad d k w hk hk1 hk2 h ho

set_option maxRecDepth 100000 in
set_option maxHeartbeats 400000 in
theorem storeRecover_any (d : ByteArray) (k : Nat) (sort : Int) (rep : List UInt8) (lv : Nat) (ss : StM) (a : Option Addr) (n c : Nat) (w : World) (hk : d.size = k * 32) (hk2 : k ≤ 40) (hr : rep.length = k * 32) :
    Calls Tryz.prog 65 #[.string d, .agg (stateCells sort rep lv ss a n c)] w fun e w' => e = .returned (.string (str (changesL d.data.toList rep 0 k))) ∧ Below w.heap.size w w' := by
  have c1 := fun w => sectors_any d k w (by unfold maxLen; omega) hk
  have c2 := fun w => changes_any d (str rep) k 0 k w hk (by rw [str_size]; exact hr) hk2 (by omega) (by omega) (by omega)
  rw [str_toList, Int.toNat_natCast, show (0 : Int).toNat = 0 from rfl] at c2
  unfold stateCells
  generalize str (changesL d.data.toList rep 0 k) = pl at *
  generalize str rep = rp at *
  go_enter Tryz.func65, Tryz.ntmps65
  go_upto_region 1 with fail
  go_region_with (first | (go_at_call 56; with_reducible refine (c1 _).mono ?_; rintro e w' ⟨rfl, hw⟩; rw [hw]; clear hw w') | (go_at_call 101; with_reducible refine (c2 _).mono ?_; rintro e w2 ⟨rfl, hb2⟩))
  all_goals go_wp2
  all_goals go_ret
  all_goals exact ⟨rfl, below_tr ((Below.refl _ _).alloc (Nat.le_refl _) _) ⟨hb2.os, hb2.tape, hb2.output, hb2.size, hb2.block⟩⟩

/-- What Recover answers: the plan; the error is Repair's. -/
def recPlan (d : List UInt8) : List UInt8 := if (repairR d).2 = 0 then changesL d (repairR d).1 0 (d.length / 32) else []
theorem sort_zero (d : List UInt8) (hD : isDiskL d = true) : (sortL d = 0 → repairR d = ([], 12)) ∧ (sortL d ≠ 0 → repairR d = (repL d, 0)) := by
  rw [repairR, if_pos hD, repL, sortL]
  by_cases h0 : d.take 32 = List.replicate 32 0
  · rw [if_pos h0, if_pos h0, if_pos h0]
    refine ⟨fun h => ?_, fun _ => rfl⟩
    split at h <;> omega
  · have hz : ¬ d = List.replicate d.length 0 := by
      intro e
      apply h0
      rw [isDiskL, decide_eq_true_eq] at hD
      rw [e, List.take_replicate, Nat.min_eq_left (by omega)]
    rw [if_neg h0, if_neg h0, if_neg h0, if_neg hz]
    by_cases ho : heldOk d
    · rw [if_pos ho, if_pos ho, if_pos ho]
      refine ⟨fun h => ?_, fun _ => rfl⟩
      split at h <;> omega
    · rw [if_neg ho, if_neg ho, if_neg ho]
      exact ⟨fun _ => rfl, fun h => absurd rfl h⟩
theorem repL_length (d : List UInt8) (k : Nat) (hd : d.length = k * 32) (hk1 : 1 ≤ k) (h : sortL d ≠ 0) : (repL d).length = k * 32 := by
  rw [repL]
  by_cases h0 : d.take 32 = List.replicate 32 0
  · rw [if_pos h0, List.length_replicate, hd]
  · rw [if_neg h0]
    by_cases ho : heldOk d
    · rw [if_pos ho, hd]
      obtain ⟨o1, o2, o3⟩ := heldS_okD d ho
      have hn := ho.1.2.2.2.2
      exact packL_length _ _ k o1 o2 ho.1.2.2.1 (by rw [o3]; omega)
    · exfalso
      apply h
      have hz : ¬ d = List.replicate d.length 0 := by
        intro e
        apply h0
        rw [e, List.take_replicate, Nat.min_eq_left (by omega)]
      rw [sortL, if_neg hz, if_neg h0, if_neg ho]

set_option maxRecDepth 100000 in
set_option maxHeartbeats 1000000 in
theorem pawlRecover_any (d : ByteArray) (w : World) (hd : d.size ≤ maxLen) :
    Calls Tryz.prog 27 #[.string d] w fun e w' => e = .returned (.tuple #[.string (str (recPlan d.data.toList)), .int .i64 (repairR d.data.toList).2]) ∧ Below w.heap.size w w' := by
  have c1 := fun w => devDisk_any d w hd
  cases hD : isDiskL d.data.toList with
  | false =>
    have e1 : repairR d.data.toList = ([], 6) := by rw [repairR, if_neg (by rw [hD]; simp)]
    rw [recPlan, e1, if_neg (by simp)]
    rw [hD] at c1
    clear e1
    go_enter Tryz.func27, Tryz.ntmps27
    go_wp2_with (first | (go_at_call 53; refine (c1 _).mono ?_; rintro e w' ⟨rfl, hw⟩; rw [hw]; clear hw w'))
    go_ret2
    exact ⟨rfl, Below.refl _ _⟩
  | true =>
    obtain ⟨k, hk1, hk2, hk3⟩ := disk_factsD hD
    have hdl := len_list d
    rw [hD] at c1
    obtain ⟨z1, z2⟩ := sort_zero d.data.toList hD
    have c2 : ∀ w, Calls Tryz.prog 64 #[.string d] w fun e w' => (∃ (ss : StM) (lv : Nat) (a : Option Addr) (n c : Nat), e = .returned (.agg (stateCells (sortL d.data.toList) (repL d.data.toList) lv ss a n c))) ∧ Below w.heap.size w w' := by
      intro w
      refine (find_any d k w hk1 hk2 hk3).mono ?_
      rintro e w' ⟨⟨ss, lv, a, n, c, he, _⟩, hb⟩
      exact ⟨⟨ss, lv, a, n, c, he⟩, hb⟩
    by_cases h0 : sortL d.data.toList = 0
    · rw [recPlan, z1 h0, if_neg (by simp)]
      rw [h0] at c2
      unfold stateCells at c2
      clear z1 z2 h0
      go_enter Tryz.func27, Tryz.ntmps27
      go_wp2_with (first | (go_at_call 53; refine (c1 _).mono ?_; rintro e w' ⟨rfl, hw⟩; rw [hw]; clear hw w') | (go_at_call 64; with_reducible refine (c2 _).mono ?_; rintro e w2 ⟨⟨ss, lv, a, n, c, rfl⟩, hb2⟩))
      go_ret2
      exact ⟨rfl, hb2.alloc hb2.size _⟩
    · have hrl := repL_length d.data.toList k (by rw [hdl]; exact hk1) hk2 h0
      rw [recPlan, z2 h0, if_pos rfl, hdl, hk1, show k * 32 / 32 = k by omega]
      have h0I : (sortL d.data.toList == 0) = false := by rw [beq_eq_false_iff_ne]; exact h0
      have c3 : ∀ lv ss a n c w, Calls Tryz.prog 65 #[.string d, .agg (stateCells (sortL d.data.toList) (repL d.data.toList) lv ss a n c)] w fun e w' => e = .returned (.string (str (changesL d.data.toList (repL d.data.toList) 0 k))) ∧ Below w.heap.size w w' := fun lv ss a n c w => storeRecover_any d k _ _ lv ss a n c w hk1 hk3 hrl
      unfold stateCells at c2 c3
      generalize str (changesL d.data.toList (repL d.data.toList) 0 k) = pl at *
      generalize str (repL d.data.toList) = rp at *
      generalize sortL d.data.toList = so at *
      clear z1 z2
      go_enter Tryz.func27, Tryz.ntmps27
      go_wp2_with (first | (go_at_call 53; refine (c1 _).mono ?_; rintro e w' ⟨rfl, hw⟩; rw [hw]; clear hw w') | (go_at_call 64; with_reducible refine (c2 _).mono ?_; rintro e w2 ⟨⟨ss, lv, a, n, c, rfl⟩, hb2⟩) | (go_at_call 65; with_reducible refine (c3 _ _ _ _ _ _).mono ?_; rintro e w3 ⟨rfl, hb3⟩))
      go_ret2
      exact ⟨rfl, below_tr (hb2.alloc hb2.size _) hb3⟩
end Go.Proofs.YtabpkohcimiceabGreat
