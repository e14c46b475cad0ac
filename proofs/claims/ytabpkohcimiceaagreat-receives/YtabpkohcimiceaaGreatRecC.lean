import Derived.Test.YtabpkohcimiceaaGreatFindF
import Derived.Test.YtabpkohcimiceaaGreatFindG
import Derived.Test.YtabpkohcimiceaaGreatCre
import Derived.Test.YtabpkohcimiceaaGreatPlanA
import Derived.WalkKit
import Derived.WalkSpells
import Derived.WalkLawsBesides
import Derived.Deep.RegionWith
namespace Go.Proofs.YtabpkohcimiceaaGreat
open Go.RowKit
set_option linter.unusedVariables false

theorem find_any (d : ByteArray) (k : Nat) (w : World) (hk : d.size = k * 32) (hk1 : 1 ≤ k) (hk2 : k ≤ 40) :
    Calls Tryz.prog 23 #[.string d] w fun e w' => FindOut d.data.toList w.heap.size w' e ∧ Below w.heap.size w w' := by
  by_cases h : d.data.toList.take 32 = List.replicate 32 0
  · exact find_zero d k w hk hk1 hk2 h
  · by_cases ho : heldOk d.data.toList
    · exact find_held d k w hk hk1 hk2 h ho
    · exact find_bad d k w hk hk1 hk2 h ho

/-- What Recover answers: the plan; the error is Repair's. -/
def recPlan (d : List UInt8) : List UInt8 := if (repairR d).2 = 0 then changesL d (repairR d).1 0 (d.length / 32) else []
theorem sort_zero (d : List UInt8) (hD : isDiskL d = true) : (sortL d = 0 → repairR d = ([], 12)) ∧ (sortL d ≠ 0 → repairR d = (repL d, 0)) := by
  rw [repairR, if_pos hD, repL, sortL]
  by_cases h0 : d.take 32 = List.replicate 32 0
  · rw [if_pos h0, if_pos h0, if_pos h0]
    refine ⟨fun h => ?_, fun _ => rfl⟩
    split at h <;> omega
  · have hz : ¬ d = List.replicate d.length 0 := by
      intro e
      apply h0
      rw [isDiskL, decide_eq_true_eq] at hD
      rw [e, List.take_replicate, Nat.min_eq_left (by omega)]
    rw [if_neg h0, if_neg h0, if_neg h0, if_neg hz]
    by_cases ho : heldOk d
    · rw [if_pos ho, if_pos ho, if_pos ho]
      refine ⟨fun h => ?_, fun _ => rfl⟩
      split at h <;> omega
    · rw [if_neg ho, if_neg ho, if_neg ho]
      exact ⟨fun _ => rfl, fun h => absurd rfl h⟩
theorem repL_length (d : List UInt8) (k : Nat) (hd : d.length = k * 32) (hk1 : 1 ≤ k) (h : sortL d ≠ 0) : (repL d).length = k * 32 := by
  rw [repL]
  by_cases h0 : d.take 32 = List.replicate 32 0
  · rw [if_pos h0, List.length_replicate, hd]
  · rw [if_neg h0]
    by_cases ho : heldOk d
    · rw [if_pos ho, hd]
      obtain ⟨o1, o2, o3⟩ := heldS_okD d ho
      have hn := ho.1.2.2.2.2
      exact packL_length _ _ k o1 o2 ho.1.2.2.1 (by rw [o3]; omega)
    · exfalso
      apply h
      have hz : ¬ d = List.replicate d.length 0 := by
        intro e
        apply h0
        rw [e, List.take_replicate, Nat.min_eq_left (by omega)]
      rw [sortL, if_neg hz, if_neg h0, if_neg ho]

end Go.Proofs.YtabpkohcimiceaaGreat
