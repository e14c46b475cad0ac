import Derived.Test.YtabpkohcimiceabPlanA
import Derived.Test.YtabpkohcimiceabDisk
import Derived.WalkKit
import Derived.WalkSpells
import Derived.WalkLawsBesides
import Derived.OwnWalk
import Derived.Deep.RegionHeld3
import Derived.Deep.AppendLies
import Derived.Deep.DrawnRows
import Derived.Deep.DeepCutAuto
import Derived.Laws.ResultCell
namespace Go.Proofs.Ytabpkohcimiceab
open Go.RowKit
set_option linter.unusedVariables false

/-! ### Package plans: reading -/
def fewL (n : Nat) : Nat := n / 33 + n % 33
theorem few_le (n : Nat) : ∀ (k : Nat) (p : List UInt8) (l : List RecM), recsF n k p = some l → fewL p.length ≤ k
  | _, [], _, _ => by simp [fewL]
  | 0, _ :: _, _, h => by simp [recsF] at h
  | k + 1, b :: t, l, h => by
    rw [recsF] at h
    by_cases h1 : b = 255
    · rw [if_pos h1] at h
      obtain ⟨l', h2, _⟩ := Option.map_eq_some_iff.1 h
      have := few_le n k t l' h2
      rw [List.length_cons]; unfold fewL at *; omega
    · rw [if_neg h1] at h
      by_cases h2 : n ≤ b.toNat ∨ t.length < 32
      · rw [if_pos h2] at h; cases h
      · rw [if_neg h2] at h
        obtain ⟨l', h3, _⟩ := Option.map_eq_some_iff.1 h
        have := few_le n k _ l' h3
        rw [List.length_drop] at this
        rw [List.length_cons]; unfold fewL at *; omega

def readR (p : ByteArray) (k n : Nat) (h : k < p.size) : RecM × Nat :=
  if p[k] = 255 then (⟨true, 0, []⟩, 1) else if n ≤ p[k].toNat ∨ p.size < k + 33 then (⟨false, 0, []⟩, 0) else (⟨false, p[k].toNat, (p.data.toList.drop (k + 1)).take 32⟩, 33)

theorem cons_at (p : ByteArray) (k : Nat) (h : k < p.size) : p.data.toList.drop k = p[k] :: p.data.toList.drop (k + 1) := by
  rw [List.drop_eq_getElem_cons (by rw [len_list]; exact h)]; rfl
theorem recsF_stop' (n g : Nat) (p : ByteArray) (k : Nat) (h : k < p.size) (h255 : p[k] = 255) : recsF n (g + 1) (p.data.toList.drop k) = (recsF n g (p.data.toList.drop (k + 1))).map (⟨true, 255, []⟩ :: ·) := by
  rw [cons_at p k h, recsF, if_pos h255]
theorem recsF_bad' (n g : Nat) (p : ByteArray) (k : Nat) (h : k < p.size) (h255 : p[k] ≠ 255) (hb : n ≤ p[k].toNat ∨ p.size < k + 33) : recsF n g (p.data.toList.drop k) = none := by
  rw [cons_at p k h]
  cases g with
  | zero => rw [recsF]
  | succ g => rw [recsF, if_neg h255, if_pos (by rw [List.length_drop, len_list]; omega)]
theorem recsF_write' (n g : Nat) (p : ByteArray) (k : Nat) (h : k < p.size) (h255 : p[k] ≠ 255) (hb1 : ¬ (n ≤ p[k].toNat ∨ p.size < k + 33)) : recsF n (g + 1) (p.data.toList.drop k) = (recsF n g (p.data.toList.drop (k + 33))).map (⟨false, p[k].toNat, (p.data.toList.drop (k + 1)).take 32⟩ :: ·) := by
  rw [cons_at p k h, recsF, if_neg h255, if_neg (by rw [List.length_drop, len_list]; omega), List.drop_drop]
theorem recsF_over' (n : Nat) (p : ByteArray) (k : Nat) (h : k < p.size) : recsF n 0 (p.data.toList.drop k) = none := by
  rw [cons_at p k h]; rfl
/-- The record at a place: as the reference has it. -/
theorem readR_step (p : ByteArray) (k n g : Nat) (h : k < p.size) :
    ((readR p k n h).2 = 0 → recsF n g (p.data.toList.drop k) = none) ∧
    ((readR p k n h).2 ≠ 0 → k + (readR p k n h).2 ≤ p.size ∧ (readR p k n h).2 ≤ 33 ∧ ∃ r, devR r = (readR p k n h).1 ∧ recsF n (g + 1) (p.data.toList.drop k) = (recsF n g (p.data.toList.drop (k + (readR p k n h).2))).map (r :: ·)) := by
  by_cases h255 : p[k] = 255
  · have e : readR p k n h = (⟨true, 0, []⟩, 1) := by rw [readR, if_pos h255]
    rw [e]
    refine ⟨by simp, fun _ => ⟨by show k + 1 ≤ _; omega, by show 1 ≤ 33; omega, ⟨true, 255, []⟩, rfl, ?_⟩⟩
    exact recsF_stop' n g p k h h255
  · by_cases hbad : n ≤ p[k].toNat ∨ p.size < k + 33
    · have e : readR p k n h = (⟨false, 0, []⟩, 0) := by rw [readR, if_neg h255, if_pos hbad]
      rw [e]
      exact ⟨fun _ => recsF_bad' n g p k h h255 hbad, by simp⟩
    · have e : readR p k n h = (⟨false, p[k].toNat, (p.data.toList.drop (k + 1)).take 32⟩, 33) := by rw [readR, if_neg h255, if_neg hbad]
      rw [e]
      refine ⟨by simp, fun _ => ⟨by show k + 33 ≤ _; omega, by show 33 ≤ 33; omega, ⟨false, p[k].toNat, (p.data.toList.drop (k + 1)).take 32⟩, rfl, ?_⟩⟩
      exact recsF_write' n g p k h h255 hbad
theorem devL_push (done : List RecM) (r : RecM) : recsCells (devL (done ++ [r])) = recsCells (devL done) ++ recCells (devR r) := by
  rw [devL, List.map_append, recsCells_append]; simp [recsCells, devL]

end Go.Proofs.Ytabpkohcimiceab
