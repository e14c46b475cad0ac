import Derived.Test.YtabpkohcimiceabGreatSendX
import Derived.Test.YtabpkohcimiceabGreatSendR
import Derived.Test.YtabpkohcimiceabGreatLaw
import Derived.WalkKit
import Derived.WalkSpells
import Derived.WalkLawsBesides
namespace Go.Proofs.YtabpkohcimiceabGreat
open Go.RowKit
set_option linter.unusedVariables false

set_option maxRecDepth 100000 in
set_option maxHeartbeats 1000000 in
theorem sends_walk (a0 a1 : ByteArray) (a2 : Int) (a3 : ByteArray) (w0 : a0.size ≤ maxLen) (w1 : a1.size ≤ maxLen) (w2 : (Lit.int .i64 a2).wf = true) (w3 : a3.size ≤ maxLen) (w : World) :
    Calls Tryz.prog 28 #[.string a0, .string a1, .int .i64 a2, .string a3] w fun e w' => e = .returned (.bool true) ∧ Below w.heap.size w w' := by
  have w2' : -9223372036854775808 ≤ a2 ∧ a2 ≤ 9223372036854775807 := by
    simp [Lit.wf, IntKind.min, IntKind.max, IntKind.signed, IntKind.bits] at w2
    omega
  obtain ⟨n0, n1⟩ := w2'
  obtain ⟨e0, e1⟩ := sendErr_bd a0.data.toList a1.data.toList
  have c1 := fun w => pawlSend_any a0 a1 w w0
  have c2 := fun w => refSend_any a0 a1 w w0
  by_cases hok : sendErr a0.data.toList a1.data.toList = 0
  · obtain ⟨k, hD, hk, hk1, hk2, hto, hpl, r1, r2, r3⟩ := send_safe _ _ hok
    rw [len_list] at hk
    have hps : (str (sendPlan a0.data.toList a1.data.toList)).size ≤ maxLen := by
      obtain ⟨q1, q2⟩ := recsF_ok _ _ _ _ r1
      rw [str_size, hpl]
      have := encL_len k _ q2
      unfold maxLen; omega
    have c3 := fun w => safe_any a0 a0 (str (sendTo a0.data.toList a1.data.toList)) (str (sendPlan a0.data.toList a1.data.toList)) _ k a2 a3 w hD hk hk2 hps (by rw [str_toList]; exact r1) n0 n1 w3 (by rw [str_toList]; exact r2) (by rw [str_toList]; exact r3)
    rw [hok] at c1 c2
    generalize str (sendPlan a0.data.toList a1.data.toList) = pl at *
    generalize str (sendTo a0.data.toList a1.data.toList) = tt at *
    generalize str (sendLet a0.data.toList a1.data.toList) = lt at *
    clear r1 r2 r3 hok hto hpl hD hps e0 e1
    go_enter Tryz.func28, Tryz.ntmps28
    go_wp2_with (first | (go_at_call 29; (with_reducible refine (c1 _).mono ?_); rintro e x0 ⟨rfl, hb0⟩) | (go_at_call 66; (with_reducible refine (c2 _).mono ?_); rintro e x1 ⟨rfl, hb1⟩) | (go_at_call 52; (with_reducible refine (c3 _).mono ?_); rintro e x2 ⟨rfl, hb2⟩) | go_in)
    go_ret
    exact ⟨rfl, below_tr (below_tr hb0 hb1) hb2⟩
  · have p1 : sendPlan a0.data.toList a1.data.toList = [] := by rw [sendPlan, if_neg hok]
    rw [p1] at c1
    generalize str (sendTo a0.data.toList a1.data.toList) = tt at *
    generalize str (sendLet a0.data.toList a1.data.toList) = lt at *
    generalize sendErr a0.data.toList a1.data.toList = E at *
    have hokB : (E == 0) = false := by rw [beq_eq_false_iff_ne]; exact hok
    have c1' : ∀ w, Calls Tryz.prog 29 #[.string a0, .string a1] w fun e w' => e = .returned (.tuple #[.string lt, .string ⟨#[]⟩, .int .i64 E]) ∧ Below w.heap.size w w' := c1
    clear p1 c1
    go_enter Tryz.func28, Tryz.ntmps28
    go_wp2_with (first | (go_at_call 29; (with_reducible refine (c1' _).mono ?_); rintro e x0 ⟨rfl, hb0⟩) | (go_at_call 66; (with_reducible refine (c2 _).mono ?_); rintro e x1 ⟨rfl, hb1⟩) | go_in)
    go_ret
    exact ⟨rfl, below_tr hb0 hb1⟩
end Go.Proofs.YtabpkohcimiceabGreat
