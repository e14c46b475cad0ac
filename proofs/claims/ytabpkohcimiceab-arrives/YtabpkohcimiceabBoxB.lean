import Derived.Test.YtabpkohcimiceabBoxA
namespace Go.Proofs.Ytabpkohcimiceab
set_option maxRecDepth 100000
set_option maxHeartbeats 1000000
open Go.RowKit
set_option linter.unusedVariables false
attribute [local go_sem ↓] Go.wp_at_zero Go.wp_at_succ
theorem entsL_length : ∀ (l : List EntM), (∀ e ∈ l, e.step ≤ 255 ∧ e.count ≤ 255 ∧ e.key.length = 8) → (entsL l).length = 10 * l.length
  | [], _ => rfl
  | e :: l, h => by
    have h1 := entsL_length l (fun x hx => h x (List.mem_cons_of_mem _ hx))
    have h2 := (h e List.mem_cons_self).2.2
    rw [entsL, List.length_append, h1, entL]; simp [h2]; omega
theorem bodyL_length {s : StM} (h : StOk s) : (bodyL s).length = 40 := by
  simp only [bodyL, List.length_append, h.root, h.out, h.inn, fourN_length]; rfl
end Go.Proofs.Ytabpkohcimiceab
namespace Go.Proofs.Ytabpkohcimiceab
set_option maxRecDepth 100000
set_option maxHeartbeats 1000000
open Go.RowKit
set_option linter.unusedVariables false
theorem none_test (l : List UInt8) : ((str l).toList == [0, 0, 0, 0, 0, 0, 0, 0]) = decide (l = noneL) := by
  rw [Bool.eq_iff_iff, beq_iff_eq, decide_eq_true_eq, ByteArray.toList_eq, str_toList]; rfl
end Go.Proofs.Ytabpkohcimiceab
namespace Go.Proofs.Ytabpkohcimiceab
set_option maxRecDepth 100000
set_option maxHeartbeats 1000000
open Go.RowKit
set_option linter.unusedVariables false
def chainL (root : List UInt8) (d : Nat) : List UInt8 := mixed root (99 :: fourN d)
def rootL (root : List UInt8) (d : Nat) : List UInt8 := mixed root (114 :: fourN d)
theorem one_front (c : UInt8) (l : List UInt8) : ((⟨#[c]⟩ : ByteArray) ++ str l).data.toList = c :: l := by
  rw [ByteArray.data_append]; simp [str]
theorem one_front_size (c : UInt8) (l : List UInt8) : ((⟨#[c]⟩ : ByteArray) ++ str l).size = 1 + l.length := by
  rw [← len_list, one_front]; simp; omega
def Allow (role skip cap peer draw : Int) : Prop := Sec draw ∧ (0 ≤ skip ∧ skip ≤ 12 ∧ 0 ≤ cap ∧ cap ≤ 30) ∧ ((role = 0 ∧ Pub peer) ∨ (role = 1 ∧ peer = 0))
instance (role skip cap peer draw : Int) : Decidable (Allow role skip cap peer draw) := inferInstanceAs (Decidable (_ ∧ _))
end Go.Proofs.Ytabpkohcimiceab
