import Derived.Test.YtabpkohcimiceabGreatRecvP
import Derived.Test.YtabpkohcimiceabGreatRefW
import Derived.Test.YtabpkohcimiceabGreatLaw
import Derived.WalkKit
import Derived.WalkSpells
import Derived.WalkLawsBesides
namespace Go.Proofs.YtabpkohcimiceabGreat
open Go.RowKit
set_option linter.unusedVariables false
set_option linter.unusedSimpArgs false

set_option maxRecDepth 100000 in
set_option maxHeartbeats 1000000 in
theorem receives_walk (a0 a1 : ByteArray) (a2 a3 : Int) (a4 : ByteArray) (w0 : a0.size ≤ maxLen) (w1 : a1.size ≤ maxLen) (w2 : (Lit.int .i64 a2).wf = true) (w3 : (Lit.int .i64 a3).wf = true) (w4 : a4.size ≤ maxLen) (w : World) :
    Calls Tryz.prog 30 #[.string a0, .string a1, .int .i64 a2, .int .i64 a3, .string a4] w fun e w' => e = .returned (.bool true) ∧ Below w.heap.size w w' := by
  have w3' : -9223372036854775808 ≤ a3 ∧ a3 ≤ 9223372036854775807 := by
    simp [Lit.wf, IntKind.min, IntKind.max, IntKind.signed, IntKind.bits] at w3
    omega
  obtain ⟨n0, n1⟩ := w3'
  obtain ⟨e0, e1⟩ := recvErr_bd a0.data.toList a1.data.toList a2
  have c1 := fun w => pawlReceive_any a0 a1 a2 w w0 w1
  have c2 := fun w => refReceive_any a0 a1 a2 w w0 w1
  by_cases hok : recvErr a0.data.toList a1.data.toList a2 = 0
  · obtain ⟨k, hD, hk, hk1, hk2, hto, hpl, r1, r2, r3⟩ := recv_safe _ _ _ hok
    rw [len_list] at hk
    have hps : (str (recvPlan a0.data.toList a1.data.toList a2)).size ≤ maxLen := by
      obtain ⟨q1, q2⟩ := recsF_ok _ _ _ _ r1
      rw [str_size, hpl]
      have := encL_bd k _ q2
      unfold maxLen; omega
    have c3 := fun w => safe_any a0 a0 (str (recvTo a0.data.toList a1.data.toList a2)) (str (recvPlan a0.data.toList a1.data.toList a2)) _ k a3 a4 w hD hk hk2 hps (by rw [str_toList]; exact r1) n0 n1 w4 (by rw [str_toList]; exact r2) (by rw [str_toList]; exact r3)
    rw [hok] at c1 c2
    generalize str (recvPlan a0.data.toList a1.data.toList a2) = pl at *
    generalize str (recvTo a0.data.toList a1.data.toList a2) = tt at *
    generalize str (recvTxt a0.data.toList a1.data.toList a2) = lt at *
    clear r1 r2 r3 hok hto hpl hD hps e0 e1
    go_enter Tryz.func30, Tryz.ntmps30
    go_wp2_with (first | (go_at_call 31; (with_reducible refine (c1 _).mono ?_); rintro e x0 ⟨rfl, hb0⟩) | (go_at_call 70; (with_reducible refine (c2 _).mono ?_); rintro e x1 ⟨rfl, hb1⟩) | (go_at_call 52; (with_reducible refine (c3 _).mono ?_); rintro e x2 ⟨rfl, hb2⟩) | go_in)
    go_ret
    exact ⟨rfl, below_tr (below_tr hb0 hb1) hb2⟩
  · have p1 : recvPlan a0.data.toList a1.data.toList a2 = [] := by rw [recvPlan, if_neg hok]
    rw [p1] at c1
    generalize str (recvTo a0.data.toList a1.data.toList a2) = tt at *
    generalize str (recvTxt a0.data.toList a1.data.toList a2) = lt at *
    generalize recvErr a0.data.toList a1.data.toList a2 = E at *
    have hokB : (E == 0) = false := by rw [beq_eq_false_iff_ne]; exact hok
    have c1' : ∀ w, Calls Tryz.prog 31 #[.string a0, .string a1, .int .i64 a2] w fun e w' => e = .returned (.tuple #[.string lt, .string ⟨#[]⟩, .int .i64 E]) ∧ Below w.heap.size w w' := c1
    clear p1 c1
    go_enter Tryz.func30, Tryz.ntmps30
    go_wp2_with (first | (go_at_call 31; (with_reducible refine (c1' _).mono ?_); rintro e x0 ⟨rfl, hb0⟩) | (go_at_call 70; (with_reducible refine (c2 _).mono ?_); rintro e x1 ⟨rfl, hb1⟩) | go_in)
    go_ret
    exact ⟨rfl, below_tr hb0 hb1⟩
end Go.Proofs.YtabpkohcimiceabGreat
