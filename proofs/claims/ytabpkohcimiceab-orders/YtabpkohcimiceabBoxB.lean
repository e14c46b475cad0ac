import Derived.Test.YtabpkohcimiceabBoxS
import Derived.WalkKit
import Derived.WalkSpells
import Derived.WalkLawsBesides
import Derived.Deep.RegionHeld3
import Derived.Deep.DeepMust
import Derived.Deep.DrawnRows
import Derived.Deep.DeepCutAuto
namespace Go.Proofs.Ytabpkohcimiceab
open Go.RowKit
set_option linter.unusedVariables false
attribute [local go_sem ↓] Go.wp_at_zero Go.wp_at_succ

theorem entsL_length : ∀ (l : List EntM), (∀ e ∈ l, e.step ≤ 255 ∧ e.count ≤ 255 ∧ e.key.length = 8) → (entsL l).length = 10 * l.length
  | [], _ => rfl
  | e :: l, h => by
    have h1 := entsL_length l (fun x hx => h x (List.mem_cons_of_mem _ hx))
    have h2 := (h e List.mem_cons_self).2.2
    rw [entsL, List.length_append, h1, entL]; simp [h2]; omega
theorem bodyL_length {s : StM} (h : StOk s) : (bodyL s).length = 40 := by
  simp only [bodyL, List.length_append, h.root, h.out, h.inn, fourN_length]; rfl
theorem sideL_le {s : StM} (h : StOk s) : (sideL s).length ≤ 5000 := by
  have h1 := bodyL_length h
  have h2 := entsL_length s.kept h.keys
  have h3 := h.kept
  have h4 := h.cap
  rw [sideL, fillL_length, List.length_append, h1, h2, halfN]; omega

end Go.Proofs.Ytabpkohcimiceab

namespace Go.Proofs.Ytabpkohcimiceab
open Go.RowKit
set_option linter.unusedVariables false

theorem lawA_no (s : StM) (h : ¬ (s.role ≤ 1 ∧ s.step ≤ 30 ∧ (s.step + s.role) % 2 ≠ 0 ∧ s.skip ≤ 12 ∧ s.cap ≤ 30)) : lawfulL s = false := by
  rw [lawfulL, lawA, decide_eq_false h]; simp
theorem lawB_no (s : StM) (h : ¬ (s.sent ≤ 50 ∧ s.got ≤ 50 ∧ s.prev ≤ 50)) : lawfulL s = false := by
  rw [lawfulL, lawB, decide_eq_false h]; simp
theorem lawC_no (s : StM) (h : ¬ (Sec s.secret ∧ (0 < s.step → Pub s.peer))) : lawfulL s = false := by
  rw [lawfulL, lawC, decide_eq_false h]; simp
theorem lawD_no (s : StM) (h : ¬ (s.step = 0 → s.sent = 0 ∧ s.peer = 0 ∧ s.out = noneL)) : lawfulL s = false := by
  rw [lawfulL, lawD, decide_eq_false h]; simp
theorem lawE_no (s : StM) (h : ¬ (s.step ≤ 1 → s.got = 0 ∧ s.inn = noneL)) : lawfulL s = false := by
  rw [lawfulL, lawE, decide_eq_false h]; simp
theorem lawF_no (s : StM) (h : ¬ (s.step ≤ 2 → s.prev = 0)) : lawfulL s = false := by
  rw [lawfulL, lawF, decide_eq_false h]; simp
theorem law_no (s : StM) (h : ¬ ((s.step = 0 → s.sent = 0 ∧ s.peer = 0 ∧ s.out = noneL) ∧ (s.step ≤ 1 → s.got = 0 ∧ s.inn = noneL) ∧ (s.step ≤ 2 → s.prev = 0))) : lawfulL s = false := by
  by_cases h1 : s.step = 0 → s.sent = 0 ∧ s.peer = 0 ∧ s.out = noneL
  · by_cases h2 : s.step ≤ 1 → s.got = 0 ∧ s.inn = noneL
    · exact lawF_no s fun h3 => h ⟨h1, h2, h3⟩
    · exact lawE_no s h2
  · exact lawD_no s h1
theorem law_yes (s : StM) (hA : lawA s = true) (hB : lawB s = true) (hC : lawC s = true) (h : (s.step = 0 → s.sent = 0 ∧ s.peer = 0 ∧ s.out = noneL) ∧ (s.step ≤ 1 → s.got = 0 ∧ s.inn = noneL) ∧ (s.step ≤ 2 → s.prev = 0)) : lawfulL s = keysL s := by
  rw [lawfulL, hA, hB, hC, lawD, lawE, lawF, decide_eq_true h.1, decide_eq_true h.2.1, decide_eq_true h.2.2]; simp
theorem none_test (l : List UInt8) : ((str l).toList == [0, 0, 0, 0, 0, 0, 0, 0]) = decide (l = noneL) := by
  rw [Bool.eq_iff_iff, beq_iff_eq, decide_eq_true_eq, ByteArray.toList_eq, str_toList]; rfl


end Go.Proofs.Ytabpkohcimiceab

namespace Go.Proofs.Ytabpkohcimiceab
open Go.RowKit
set_option linter.unusedVariables false

/-- A chain's key and the next root, of a root and a number. -/
def chainL (root : List UInt8) (d : Nat) : List UInt8 := mixed root (99 :: fourN d)
def rootL (root : List UInt8) (d : Nat) : List UInt8 := mixed root (114 :: fourN d)
theorem one_front (c : UInt8) (l : List UInt8) : ((⟨#[c]⟩ : ByteArray) ++ str l).data.toList = c :: l := by
  rw [ByteArray.data_append]; simp [str]
theorem one_front_size (c : UInt8) (l : List UInt8) : ((⟨#[c]⟩ : ByteArray) ++ str l).size = 1 + l.length := by
  rw [← len_list, one_front]; simp; omega

/-- May a box be made with these numbers? -/
def Allow (role skip cap peer draw : Int) : Prop := Sec draw ∧ (0 ≤ skip ∧ skip ≤ 12 ∧ 0 ≤ cap ∧ cap ≤ 30) ∧ ((role = 0 ∧ Pub peer) ∨ (role = 1 ∧ peer = 0))
instance (role skip cap peer draw : Int) : Decidable (Allow role skip cap peer draw) := inferInstanceAs (Decidable (_ ∧ _))

end Go.Proofs.Ytabpkohcimiceab
