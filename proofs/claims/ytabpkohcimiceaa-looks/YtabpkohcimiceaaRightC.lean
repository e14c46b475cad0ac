import Derived.Test.YtabpkohcimiceaaBoxE
import Derived.Test.YtabpkohcimiceaaNewC
import Derived.Test.YtabpkohcimiceaaBoxW
import Derived.WalkKit
import Derived.WalkSpells
import Derived.WalkLawsBesides
namespace Go.Proofs.Ytabpkohcimiceaa
open Go.RowKit
set_option linter.unusedVariables false

/-! ### Package boxes: what is right -/
def NumP (s : StM) : Prop := (s.role ≤ 1 ∧ s.step ≤ 30 ∧ s.step % 2 ≠ s.role) ∧ (s.sent ≤ 50 ∧ s.got ≤ 50 ∧ s.prev ≤ 50) ∧ s.skip ≤ 12 ∧ Sec s.secret
instance (s : StM) : Decidable (NumP s) := inferInstanceAs (Decidable (_ ∧ _))
set_option maxRecDepth 100000 in
set_option maxHeartbeats 1000000 in
theorem numbersRight_any (s : StM) (v : Value) (w : World) :
    Calls Try.prog 168 #[.agg (stCells s v)] w fun e w' => e = .returned (.bool (decide (NumP s))) ∧ Below w.heap.size w w' := by
  have hst := StAt.madeD w s v
  have hbl : Below w.heap.size w (w.alloc (.cells (stCells s v) 106)) := (Below.refl _ _).alloc (Nat.le_refl _) _
  have cs := fun w => devIsSecret_any (s.secret : Int) w
  go_enter Try.func168, Try.ntmps168
  go_upto_region 1 with fail
  generalize w.alloc (.cells (stCells s v) 106) = wb at hst hbl ⊢
  obtain ⟨B, hB⟩ : ∃ B, B = w.heap.size := ⟨_, rfl⟩
  rw [← hB] at hst ⊢
  have HW : Hid (Below w.heap.size w wb) := hbl
  obtain ⟨lt, h0, h1, h2, h3, h4, h5, h6, h7, h8, h9, h10, h11, h12⟩ := hst
  clear hB hbl h6 h7 h8 h9 h11 h12
  go_upto_region 3 with fail
  all_goals try (go_ret; exact ⟨by rw [decide_eq_false (fun h : NumP s => by obtain ⟨⟨q1, q2, q3⟩, _⟩ := h; first | omega | (simp only [beq_iff_eq] at *; omega))]; rfl, HW.out⟩)
  have HA : Hid (s.role ≤ 1 ∧ s.step ≤ 30 ∧ s.step % 2 ≠ s.role) := by
    show _ ∧ _
    first | omega | (simp only [beq_eq_false_iff_ne] at *; omega)
  go_upto_region 5 with fail
  all_goals try (go_ret; exact ⟨by rw [decide_eq_false (fun h : NumP s => by obtain ⟨_, ⟨q1, q2, q3⟩, _⟩ := h; omega)]; rfl, HW.out⟩)
  have HB : Hid (s.sent ≤ 50 ∧ s.got ≤ 50 ∧ s.prev ≤ 50) := by
    show _ ∧ _
    omega
  by_cases hsk : s.skip ≤ 12
  · have hskI : (s.skip : Int) ≤ 12 := by omega
    have e : decide (NumP s) = decide (Sec (s.secret : Int)) := by
      by_cases hh : Sec (s.secret : Int)
      · rw [decide_eq_true hh, decide_eq_true ⟨HA.out, HB.out, hsk, hh⟩]
      · rw [decide_eq_false hh, decide_eq_false (fun h : NumP s => hh h.2.2.2)]
    have HE : Hid (decide (NumP s) = decide (Sec (s.secret : Int))) := e
    clear e
    go_wp2_with (first | (go_at_call 53; refine (cs _).mono ?_; rintro e w' ⟨rfl, hw⟩; rw [hw]; clear hw w'))
    go_ret
    exact ⟨by rw [HE.out]; rfl, HW.out⟩
  · have hskI : ¬ (s.skip : Int) ≤ 12 := by omega
    have hskd : decide ((s.skip : Int) ≤ 12) = false := decide_eq_false hskI
    have HE : Hid (decide (NumP s) = false) := decide_eq_false (fun h : NumP s => hsk h.2.2.1)
    go_wp2
    go_ret
    exact ⟨by rw [HE.out]; rfl, HW.out⟩

def BegP (s : StM) : Prop := (s.step = 0 → s.sent = 0 ∧ s.out = noneL ∧ s.peer = 0) ∧ (s.step ≠ 0 → Pub s.peer) ∧ (s.step ≤ 1 → s.got = 0 ∧ s.inn = noneL) ∧ (s.step ≤ 2 → s.prev = 0)
instance (s : StM) : Decidable (BegP s) := inferInstanceAs (Decidable (_ ∧ _))
set_option maxRecDepth 100000 in
set_option maxHeartbeats 2000000 in
theorem beginRight_any (s : StM) (v : Value) (w : World) :
    Calls Try.prog 169 #[.agg (stCells s v)] w fun e w' => e = .returned (.bool (decide (BegP s))) ∧ Below w.heap.size w w' := by
  have hst := StAt.madeD w s v
  have hbl : Below w.heap.size w (w.alloc (.cells (stCells s v) 106)) := (Below.refl _ _).alloc (Nat.le_refl _) _
  have cp := fun w => devIsPublic_any (s.peer : Int) w
  have hO := none_test s.out
  have hI := none_test s.inn
  obtain ⟨P, hP⟩ : ∃ P, P = decide (BegP s) := ⟨_, rfl⟩
  rw [← hP]
  have HP : Hid (P = decide (BegP s)) := hP
  clear hP
  go_enter Try.func169, Try.ntmps169
  go_upto_region 1 with fail
  generalize w.alloc (.cells (stCells s v) 106) = wb at hst hbl ⊢
  obtain ⟨B, hB⟩ : ∃ B, B = w.heap.size := ⟨_, rfl⟩
  rw [← hB] at hst ⊢
  have HW : Hid (Below w.heap.size w wb) := hbl
  obtain ⟨lt, h0, h1, h2, h3, h4, h5, h6, h7, h8, h9, h10, h11, h12⟩ := hst
  clear hB hbl h0 h5 h6 h7 h10 h12
  by_cases p0 : s.step = 0
  · have p0I : (s.step : Int) = 0 := by omega
    go_upto_region 6 with fail
    all_goals try (go_ret; exact ⟨by rw [HP.out, decide_eq_false (fun h : BegP s => by obtain ⟨q1, _⟩ := h; have := q1 p0; simp_all)]; rfl, HW.out⟩)
    go_upto_region 8 with fail
    all_goals try (go_ret; exact ⟨by rw [HP.out, decide_eq_false (fun h : BegP s => by obtain ⟨_, _, q1, _⟩ := h; have := q1 (by omega); simp_all)]; rfl, HW.out⟩)
    by_cases pp : s.prev = 0
    · have ppI : (s.prev : Int) = 0 := by omega
      have HE : Hid (P = true) := by
        show P = true
        rw [HP.out]
        exact decide_eq_true ⟨fun _ => by simp_all, fun h => absurd p0 h, fun _ => by simp_all, fun _ => pp⟩
      go_wp2
      go_ret
      exact ⟨by rw [HE.out]; rfl, HW.out⟩
    · have ppI : ((s.prev : Int) == 0) = false := by rw [beq_eq_false_iff_ne]; omega
      have HE : Hid (P = false) := by
        show P = false
        rw [HP.out]
        exact decide_eq_false (fun h : BegP s => pp (h.2.2.2 (by omega)))
      go_wp2
      go_ret
      exact ⟨by rw [HE.out]; rfl, HW.out⟩
  · have p0I : ((s.step : Int) == 0) = false := by rw [beq_eq_false_iff_ne]; omega
    by_cases hp : Pub (s.peer : Int)
    · rw [decide_eq_true hp] at cp
      by_cases p1 : s.step = 1
      · have p1I : (s.step : Int) = 1 := by omega
        go_upto_region 8 with (first | (go_at_call 55; refine (cp _).mono ?_; rintro e w' ⟨rfl, hw⟩; rw [hw]; clear hw w'))
        all_goals try (go_ret; exact ⟨by rw [HP.out, decide_eq_false (fun h : BegP s => by obtain ⟨_, _, q1, _⟩ := h; have := q1 (by omega); simp_all)]; rfl, HW.out⟩)
        by_cases pp : s.prev = 0
        · have ppI : (s.prev : Int) = 0 := by omega
          have HE : Hid (P = true) := by
            show P = true
            rw [HP.out]
            exact decide_eq_true ⟨fun h => absurd h p0, fun _ => hp, fun _ => by simp_all, fun _ => pp⟩
          go_wp2
          go_ret
          exact ⟨by rw [HE.out]; rfl, HW.out⟩
        · have ppI : ((s.prev : Int) == 0) = false := by rw [beq_eq_false_iff_ne]; omega
          have HE : Hid (P = false) := by
            show P = false
            rw [HP.out]
            exact decide_eq_false (fun h : BegP s => pp (h.2.2.2 (by omega)))
          go_wp2
          go_ret
          exact ⟨by rw [HE.out]; rfl, HW.out⟩
      · have p1I : decide ((s.step : Int) ≤ 1) = false := decide_eq_false (by omega)
        by_cases p2 : s.step = 2
        · have p2I : (s.step : Int) = 2 := by omega
          by_cases pp : s.prev = 0
          · have ppI : (s.prev : Int) = 0 := by omega
            have HE : Hid (P = true) := by
              show P = true
              rw [HP.out]
              exact decide_eq_true ⟨fun h => absurd h p0, fun _ => hp, fun h => by omega, fun _ => pp⟩
            go_wp2_with (first | (go_at_call 55; refine (cp _).mono ?_; rintro e w' ⟨rfl, hw⟩; rw [hw]; clear hw w'))
            go_ret
            exact ⟨by rw [HE.out]; rfl, HW.out⟩
          · have ppI : ((s.prev : Int) == 0) = false := by rw [beq_eq_false_iff_ne]; omega
            have HE : Hid (P = false) := by
              show P = false
              rw [HP.out]
              exact decide_eq_false (fun h : BegP s => pp (h.2.2.2 (by omega)))
            go_wp2_with (first | (go_at_call 55; refine (cp _).mono ?_; rintro e w' ⟨rfl, hw⟩; rw [hw]; clear hw w'))
            go_ret
            exact ⟨by rw [HE.out]; rfl, HW.out⟩
        · have p2I : (2 : Int) < (s.step : Int) := by omega
          have p2d : decide ((2 : Int) < (s.step : Int)) = true := decide_eq_true p2I
          have HE : Hid (P = true) := by
            show P = true
            rw [HP.out]
            exact decide_eq_true ⟨fun h => absurd h p0, fun _ => hp, fun h => by omega, fun h => by omega⟩
          go_wp2_with (first | (go_at_call 55; refine (cp _).mono ?_; rintro e w' ⟨rfl, hw⟩; rw [hw]; clear hw w'))
          go_ret
          exact ⟨by rw [HE.out]; rfl, HW.out⟩
    · rw [decide_eq_false hp] at cp
      have HE : Hid (P = false) := by
        show P = false
        rw [HP.out]
        exact decide_eq_false (fun h : BegP s => hp (h.2.1 p0))
      go_wp2_with (first | (go_at_call 55; refine (cp _).mono ?_; rintro e w' ⟨rfl, hw⟩; rw [hw]; clear hw w'))
      go_ret
      exact ⟨by rw [HE.out]; rfl, HW.out⟩
end Go.Proofs.Ytabpkohcimiceaa
