import Derived.Test.YtabpkohcimiceaaBoxE
import Derived.WalkKit
import Derived.WalkSpells
import Derived.WalkLawsBesides
namespace Go.Proofs.Ytabpkohcimiceaa
open Go.RowKit
set_option linter.unusedVariables false

/-! ### Package boxes: the keys that are kept -/
def KeyP (s : StM) (k : EntM) : Prop := (1 ≤ k.step ∧ k.step < s.step ∧ k.step % 2 ≠ s.step % 2 ∧ k.count < 50) ∧ (k.step + 1 = s.step → k.count < s.got)
instance (s : StM) (k : EntM) : Decidable (KeyP s k) := inferInstanceAs (Decidable (_ ∧ _))
theorem key_last (s : StM) (k : EntM) (hA : 1 ≤ k.step ∧ k.step < s.step ∧ k.step % 2 ≠ s.step % 2 ∧ k.count < 50) (h : (k.step : Int) = (s.step : Int) - 1) : decide (k.count < s.got) = decide (KeyP s k) := by
  by_cases q : k.count < s.got
  · rw [decide_eq_true q, decide_eq_true ⟨hA, fun _ => q⟩]
  · rw [decide_eq_false q, decide_eq_false (fun x : KeyP s k => q (x.2 (by omega)))]
theorem key_free (s : StM) (k : EntM) (hA : 1 ≤ k.step ∧ k.step < s.step ∧ k.step % 2 ≠ s.step % 2 ∧ k.count < 50) (h : ¬ (k.step : Int) = (s.step : Int) - 1) : true = decide (KeyP s k) := by
  rw [decide_eq_true ⟨hA, fun x => by omega⟩]
set_option maxRecDepth 100000 in
set_option maxHeartbeats 1000000 in
theorem keptIsRight_any (s : StM) (v : Value) (k : EntM) (w : World) (hss : s.step ≤ 255) :
    Calls Try.prog 174 #[.agg (stCells s v), .agg #[.int .i64 k.step, .int .i64 k.count, .string (str k.key)]] w fun e w' => e = .returned (.bool (decide (KeyP s k))) ∧ ∃ x y, w' = (w.alloc (.cells x 106)).alloc (.cells y 178) := by
  unfold stCells
  obtain ⟨P, hP⟩ : ∃ P, P = decide (KeyP s k) := ⟨_, rfl⟩
  rw [← hP]
  have HP : Hid (P = decide (KeyP s k)) := hP
  clear hP
  by_cases t1 : k.step < 1
  · have t1' : (k.step : Int) < 1 := by omega
    have HE : Hid (P = false) := by show P = false; rw [HP.out]; exact decide_eq_false (fun h : KeyP s k => by have := h.1.1; omega)
    go_enter Try.func174, Try.ntmps174
    go_wp2
    go_ret
    exact ⟨by rw [HE.out]; rfl, _, _, rfl⟩
  have t1' : ¬ (k.step : Int) < 1 := by omega
  have d1 : decide ((k.step : Int) < 1) = false := decide_eq_false t1'
  by_cases t2 : s.step ≤ k.step
  · have t2' : (s.step : Int) ≤ (k.step : Int) := by omega
    have HE : Hid (P = false) := by show P = false; rw [HP.out]; exact decide_eq_false (fun h : KeyP s k => by have := h.1.2.1; omega)
    go_enter Try.func174, Try.ntmps174
    go_wp2
    go_ret
    exact ⟨by rw [HE.out]; rfl, _, _, rfl⟩
  have t2' : ¬ (s.step : Int) ≤ (k.step : Int) := by omega
  have d2 : decide (s.step ≤ k.step) = false := decide_eq_false t2
  by_cases t3 : k.step % 2 = s.step % 2
  · have t3' : (k.step : Int) % 2 = (s.step : Int) % 2 := by omega
    have d3 : ((k.step : Int) % 2 == (s.step : Int) % 2) = true := by rw [beq_iff_eq]; exact t3'
    have HE : Hid (P = false) := by show P = false; rw [HP.out]; exact decide_eq_false (fun h : KeyP s k => h.1.2.2.1 t3)
    clear t3 t3'
    go_enter Try.func174, Try.ntmps174
    go_wp2
    go_ret
    exact ⟨by rw [HE.out]; rfl, _, _, rfl⟩
  have d3 : ((k.step : Int) % 2 == (s.step : Int) % 2) = false := by rw [beq_eq_false_iff_ne]; omega
  by_cases t4 : 50 ≤ k.count
  · have t4' : (50 : Int) ≤ (k.count : Int) := by omega
    have HE : Hid (P = false) := by show P = false; rw [HP.out]; exact decide_eq_false (fun h : KeyP s k => by have := h.1.2.2.2; omega)
    go_enter Try.func174, Try.ntmps174
    go_wp2
    go_ret
    exact ⟨by rw [HE.out]; rfl, _, _, rfl⟩
  have t4' : ¬ (50 : Int) ≤ (k.count : Int) := by omega
  have d4 : decide ((50 : Int) ≤ (k.count : Int)) = false := decide_eq_false t4'
  have HA : Hid (1 ≤ k.step ∧ k.step < s.step ∧ k.step % 2 ≠ s.step % 2 ∧ k.count < 50) := by
    show _ ∧ _
    exact ⟨by omega, by omega, t3, by omega⟩
  clear t1 t2 t3 t4
  go_enter Try.func174, Try.ntmps174
  go_wp2
  all_goals go_ret
  all_goals refine ⟨?_, _, _, rfl⟩
  all_goals rw [HP.out]
  · rw [← key_last s k HA.out (by assumption)]; rfl
  · rw [← key_free s k HA.out (by assumption)]; rfl

set_option maxRecDepth 100000 in
set_option maxHeartbeats 400000 in
theorem isBefore_any (a b : EntM) (w : World) :
    Calls Try.prog 175 #[.agg #[.int .i64 a.step, .int .i64 a.count, .string (str a.key)], .agg #[.int .i64 b.step, .int .i64 b.count, .string (str b.key)]] w fun e w' => e = .returned (.bool (beforeL a b)) ∧ ∃ x y, w' = (w.alloc (.cells x 178)).alloc (.cells y 178) := by
  by_cases h1 : a.step < b.step
  · have e1 : beforeL a b = true := by simp [beforeL, h1]
    rw [e1]
    have h1' : (a.step : Int) < (b.step : Int) := by omega
    go_enter Try.func175, Try.ntmps175
    go_wp2
    go_ret
    exact ⟨rfl, _, _, rfl⟩
  · have h1' : ¬ (a.step : Int) < (b.step : Int) := by omega
    by_cases h2 : a.step = b.step
    · have h2' : (a.step : Int) = (b.step : Int) := by omega
      by_cases h3 : a.count < b.count
      · have e1 : beforeL a b = true := by simp [beforeL, h2, h3]
        rw [e1]
        have h3' : (a.count : Int) < (b.count : Int) := by omega
        go_enter Try.func175, Try.ntmps175
        go_wp2
        go_ret
        exact ⟨rfl, _, _, rfl⟩
      · have e1 : beforeL a b = false := by simp [beforeL, h2, h3]
        rw [e1]
        have h3' : ¬ (a.count : Int) < (b.count : Int) := by omega
        go_enter Try.func175, Try.ntmps175
        go_wp2
        go_ret
        exact ⟨rfl, _, _, rfl⟩
    · have e1 : beforeL a b = false := by simp [beforeL, h1, h2]
      rw [e1]
      have h2' : ¬ (a.step : Int) = (b.step : Int) := by omega
      go_enter Try.func175, Try.ntmps175
      go_wp2
      go_ret
      exact ⟨rfl, _, _, rfl⟩
end Go.Proofs.Ytabpkohcimiceaa
