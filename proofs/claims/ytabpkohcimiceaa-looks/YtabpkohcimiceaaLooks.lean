import Derived.Test.YtabpkohcimiceaaLookedC
import Derived.Test.YtabpkohcimiceaaRecM
import Derived.Test.YtabpkohcimiceaaRecC
import Derived.Test.YtabpkohcimiceaaLawC
import Derived.WalkKit
import Derived.WalkSpells
import Derived.WalkLawsBesides
namespace Go.Proofs.Ytabpkohcimiceaa
open Go.RowKit
set_option linter.unusedVariables false

theorem repairR_bd (d : List UInt8) : 0 ≤ (repairR d).2 ∧ (repairR d).2 ≤ 12 := by
  rw [repairR]; repeat' split
  all_goals simp
theorem changesL_length (a b : List UInt8) (lo hi : Nat) : (changesL a b lo hi).length ≤ (hi - lo) * 33 + 1 := by
  have := chgB_length a b lo (hi - lo)
  rw [changesL]; split
  · simp
  · rw [List.length_append]; simp; omega

set_option maxRecDepth 100000 in
set_option maxHeartbeats 1000000 in
theorem looks_walk (a0 : ByteArray) (a1 : Int) (a2 : ByteArray) (w0 : a0.size ≤ maxLen) (w1 : (Lit.int .i64 a1).wf = true) (w2 : a2.size ≤ maxLen) (w : World) :
    Calls Try.prog 10 #[.string a0, .int .i64 a1, .string a2] w fun e w' => e = .returned (.bool true) ∧ Below w.heap.size w w' := by
  have w1' : -9223372036854775808 ≤ a1 ∧ a1 ≤ 9223372036854775807 := by
    simp [Lit.wf, IntKind.min, IntKind.max, IntKind.signed, IntKind.bits] at w1
    omega
  obtain ⟨n0, n1⟩ := w1'
  obtain ⟨e0, e1⟩ := repairR_bd a0.data.toList
  have c1 := fun w => looked_any a0 w w0
  have c2 := fun w => pawlRecover_any a0 w w0
  have c3 := fun w => repair_any a0 w w0
  by_cases hok : (repairR a0.data.toList).2 = 0
  · have hD : isDiskL a0.data.toList = true := by
      cases hD : isDiskL a0.data.toList with
      | true => rfl
      | false => rw [repairR, if_neg (by rw [hD]; simp)] at hok; simp at hok
    obtain ⟨k, hk, hk1, hk2⟩ := disk_factsD hD
    have hdl := len_list a0
    have hplan : recPlan a0.data.toList = encL (changesR a0.data.toList (repairR a0.data.toList).1 0 k) := by
      rw [recPlan, if_pos hok, hdl, hk, show k * 32 / 32 = k by omega, changesL_enc]
    have hrp : repairR a0.data.toList = ((repairR a0.data.toList).1, 0) := by rw [← hok]
    obtain ⟨r1, r2, r3⟩ := rec_safe a0.data.toList (repairR a0.data.toList).1 k (by rw [hdl, hk]) hk1 hk2 hrp
    have hps : (str (encL (changesR a0.data.toList (repairR a0.data.toList).1 0 k))).size ≤ maxLen := by
      rw [str_size, ← changesL_enc]
      have := changesL_length a0.data.toList (repairR a0.data.toList).1 0 k
      unfold maxLen; omega
    have c5 := fun w => safe_any a0 (str (repairR a0.data.toList).1) (str (repairR a0.data.toList).1) (str (encL (changesR a0.data.toList (repairR a0.data.toList).1 0 k))) (changesR a0.data.toList (repairR a0.data.toList).1 0 k) k a1 a2 w hD hk hk2 hps (by rw [str_toList]; exact r1) n0 n1 w2 (by rw [str_toList]; exact r2) (by rw [str_toList]; exact fun m kq hm => .inl (r3 m kq hm))
    rw [hplan, hok] at c2
    rw [hok] at c3
    generalize str (encL (changesR a0.data.toList (repairR a0.data.toList).1 0 k)) = pl at *
    generalize str (repairR a0.data.toList).1 = tt at *
    clear r1 r2 r3 hplan hok hrp hD hps e0 e1
    go_enter Try.func10, Try.ntmps10
    go_wp2_with (first | (go_at_call 38; with_reducible refine (c1 _).mono ?_; rintro e x0 ⟨rfl, hb0⟩) | (go_at_call 39; with_reducible refine (c2 _).mono ?_; rintro e x1 ⟨rfl, hb1⟩) | (go_at_call 40; with_reducible refine (c3 _).mono ?_; rintro e x2 ⟨rfl, hb2⟩) | (go_at_call 37; with_reducible refine (c5 _).mono ?_; rintro e x3 ⟨rfl, hb3⟩) | go_in)
    go_ret
    exact ⟨rfl, below_tr (below_tr (below_tr hb0 hb1) hb2) hb3⟩
  · have hp : recPlan a0.data.toList = [] := by rw [recPlan, if_neg hok]
    rw [hp] at c2
    generalize str (repairR a0.data.toList).1 = tt at *
    generalize (repairR a0.data.toList).2 = E at *
    have hokB : (E == 0) = false := by rw [beq_eq_false_iff_ne]; exact hok
    have c2' : ∀ w, Calls Try.prog 39 #[.string a0] w fun e w' => e = .returned (.tuple #[.string ⟨#[]⟩, .int .i64 E]) ∧ Below w.heap.size w w' := c2
    clear hp c2
    go_enter Try.func10, Try.ntmps10
    go_wp2_with (first | (go_at_call 38; with_reducible refine (c1 _).mono ?_; rintro e x0 ⟨rfl, hb0⟩) | (go_at_call 39; with_reducible refine (c2' _).mono ?_; rintro e x1 ⟨rfl, hb1⟩) | (go_at_call 40; with_reducible refine (c3 _).mono ?_; rintro e x2 ⟨rfl, hb2⟩) | go_in)
    go_ret
    exact ⟨rfl, below_tr (below_tr hb0 hb1) hb2⟩
end Go.Proofs.Ytabpkohcimiceaa
