import Derived.Test.YtabpkohcimiceaaBoxK
import Derived.WalkKit
import Derived.WalkSpells
import Derived.WalkLawsBesides
import Derived.Deep.RegionHeld3
import Derived.Deep.DeepMust
import Derived.Deep.DrawnRows
import Derived.Deep.DeepCutAuto
namespace Go.Proofs.Ytabpkohcimiceaa
open Go.RowKit
set_option linter.unusedVariables false

set_option maxRecDepth 100000 in
set_option maxHeartbeats 400000 in
theorem refIsSecret_any (x : Int) (w : World) : Calls Try.prog 57 #[.int .i64 x] w fun e w' => e = .returned (.bool (decide (Sec x))) ∧ w' = w := by
  by_cases h1 : 1 ≤ x
  · by_cases h2 : x < 2147483646
    · rw [decide_eq_true (show Sec x from ⟨h1, by omega⟩)]
      go_enter Try.func57, Try.ntmps57
      go_wp2
      go_ret
      exact ⟨rfl, rfl⟩
    · rw [decide_eq_false (fun h : Sec x => h2 (by have := h.2; omega))]
      go_enter Try.func57, Try.ntmps57
      go_wp2
      go_ret
      exact ⟨rfl, rfl⟩
  · rw [decide_eq_false (fun h : Sec x => h1 h.1)]
    go_enter Try.func57, Try.ntmps57
    go_wp2
    go_ret
    exact ⟨rfl, rfl⟩
set_option maxRecDepth 100000 in
set_option maxHeartbeats 400000 in
theorem refIsPublic_any (x : Int) (w : World) : Calls Try.prog 58 #[.int .i64 x] w fun e w' => e = .returned (.bool (decide (Pub x))) ∧ w' = w := by
  by_cases h1 : 1 ≤ x
  · by_cases h2 : x < 2147483647
    · rw [decide_eq_true (show Pub x from ⟨h1, by omega⟩)]
      go_enter Try.func58, Try.ntmps58
      go_wp2
      go_ret
      exact ⟨rfl, rfl⟩
    · rw [decide_eq_false (fun h : Pub x => h2 (by have := h.2; omega))]
      go_enter Try.func58, Try.ntmps58
      go_wp2
      go_ret
      exact ⟨rfl, rfl⟩
  · rw [decide_eq_false (fun h : Pub x => h1 h.1)]
    go_enter Try.func58, Try.ntmps58
    go_wp2
    go_ret
    exact ⟨rfl, rfl⟩
theorem lawA_no (s : StM) (h : ¬ (s.role ≤ 1 ∧ s.step ≤ 30 ∧ (s.step + s.role) % 2 ≠ 0 ∧ s.skip ≤ 12 ∧ s.cap ≤ 30)) : lawfulL s = false := by
  rw [lawfulL, lawA, decide_eq_false h]; simp
theorem lawB_no (s : StM) (h : ¬ (s.sent ≤ 50 ∧ s.got ≤ 50 ∧ s.prev ≤ 50)) : lawfulL s = false := by
  rw [lawfulL, lawB, decide_eq_false h]; simp
theorem lawC_no (s : StM) (h : ¬ (Sec s.secret ∧ (0 < s.step → Pub s.peer))) : lawfulL s = false := by
  rw [lawfulL, lawC, decide_eq_false h]; simp
theorem lawD_no (s : StM) (h : ¬ (s.step = 0 → s.sent = 0 ∧ s.peer = 0 ∧ s.out = noneL)) : lawfulL s = false := by
  rw [lawfulL, lawD, decide_eq_false h]; simp
theorem lawE_no (s : StM) (h : ¬ (s.step ≤ 1 → s.got = 0 ∧ s.inn = noneL)) : lawfulL s = false := by
  rw [lawfulL, lawE, decide_eq_false h]; simp
theorem lawF_no (s : StM) (h : ¬ (s.step ≤ 2 → s.prev = 0)) : lawfulL s = false := by
  rw [lawfulL, lawF, decide_eq_false h]; simp
theorem law_no (s : StM) (h : ¬ ((s.step = 0 → s.sent = 0 ∧ s.peer = 0 ∧ s.out = noneL) ∧ (s.step ≤ 1 → s.got = 0 ∧ s.inn = noneL) ∧ (s.step ≤ 2 → s.prev = 0))) : lawfulL s = false := by
  by_cases h1 : s.step = 0 → s.sent = 0 ∧ s.peer = 0 ∧ s.out = noneL
  · by_cases h2 : s.step ≤ 1 → s.got = 0 ∧ s.inn = noneL
    · exact lawF_no s fun h3 => h ⟨h1, h2, h3⟩
    · exact lawE_no s h2
  · exact lawD_no s h1
theorem law_yes (s : StM) (hA : lawA s = true) (hB : lawB s = true) (hC : lawC s = true) (h : (s.step = 0 → s.sent = 0 ∧ s.peer = 0 ∧ s.out = noneL) ∧ (s.step ≤ 1 → s.got = 0 ∧ s.inn = noneL) ∧ (s.step ≤ 2 → s.prev = 0)) : lawfulL s = keysL s := by
  rw [lawfulL, hA, hB, hC, lawD, lawE, lawF, decide_eq_true h.1, decide_eq_true h.2.1, decide_eq_true h.2.2]; simp
theorem none_test (l : List UInt8) : ((str l).toList == [0, 0, 0, 0, 0, 0, 0, 0]) = decide (l = noneL) := by
  rw [Bool.eq_iff_iff, beq_iff_eq, decide_eq_true_eq, ByteArray.toList_eq, str_toList]; rfl


set_option maxRecDepth 100000 in
set_option maxHeartbeats 1000000 in
theorem lawful_any (s : StM) (v : Value) (w : World) (hs : StOk s) (hv : EntsAt w v s.kept)
    (hkeys : ∀ w, EntsAt w v s.kept → Calls Try.prog 155 #[.agg (stCells s v)] w fun e w' => e = .returned (.bool (keysL s)) ∧ Below w.heap.size w w') :
    Calls Try.prog 134 #[.agg (stCells s v)] w fun e w' => e = .returned (.bool (lawfulL s)) ∧ Below w.heap.size w w' := by
  obtain ⟨o0, o1, o2, o3, o4, o5, o6, o7, o8, o9, o10, o11, o12, o13⟩ := hs
  have hst := StAt.made w s v
  have hbl : Below w.heap.size w (w.alloc (.cells (stCells s v) 111)) := (Below.refl _ _).alloc (Nat.le_refl _) _
  go_enter Try.func134, Try.ntmps134
  go_upto_region 1 with fail
  generalize w.alloc (.cells (stCells s v) 111) = wb at hst hbl ⊢
  obtain ⟨B, hB⟩ : ∃ B, B = w.heap.size := ⟨_, rfl⟩
  rw [← hB] at hst ⊢
  have HW : Hid (Below w.heap.size w wb) := hbl
  have HV : Hid (EntsAt wb v s.kept) := hv.next hbl
  have HK : Hid (Calls Try.prog 155 #[.agg (stCells s v)] wb fun e w' => e = .returned (.bool (keysL s)) ∧ Below wb.heap.size wb w') := hkeys _ HV.out
  obtain ⟨lt, h0, h1, h2, h3, h4, h5, h6, h7, h8, h9, h10, h11, h12⟩ := hst
  clear hB hbl hv o13 hkeys o0 o1 o2 o3 o4 o5 o6 o7 o8 o9 o10 o11 o12
  go_upto_region 3 with fail
  all_goals try (go_ret; exact ⟨by rw [lawA_no s (by first | omega | (intro hh; simp only [beq_iff_eq] at *; omega))]; rfl, HW.out⟩)
  have HA : Hid (lawA s = true) := decide_eq_true (by first | omega | (simp only [beq_eq_false_iff_ne] at *; omega))
  go_upto_region 5 with fail
  all_goals try (go_ret; exact ⟨by rw [lawB_no s (by omega)]; rfl, HW.out⟩)
  have HB : Hid (lawB s = true) := decide_eq_true (by omega)
  have cs := fun w => refIsSecret_any (s.secret : Int) w
  have cp := fun w => refIsPublic_any (s.peer : Int) w
  have hO := none_test s.out
  have hI := none_test s.inn
  cases hsec : decide (Sec (s.secret : Int)) with
  | false =>
    rw [hsec] at cs
    have HN : Hid (lawfulL s = false) := lawC_no s (fun h => (of_decide_eq_false hsec) h.1)
    clear hsec cp
    go_wp2_with (first | (go_at_call 57; refine (cs _).mono ?_; rintro e w' ⟨rfl, hw⟩; rw [hw]; clear hw w') | go_in)
    all_goals (go_ret; exact ⟨by rw [HN.out]; rfl, HW.out⟩)
  | true =>
    rw [hsec] at cs
    have hSec : Sec (s.secret : Int) := of_decide_eq_true hsec
    have HSec : Hid (Sec (s.secret : Int)) := hSec
    clear hSec hsec
    cases hpub : decide (Pub (s.peer : Int)) with
    | false =>
      rw [hpub] at cp
      have hPub : ¬ Pub (s.peer : Int) := of_decide_eq_false hpub
      have HPub : Hid (¬ Pub (s.peer : Int)) := hPub
      clear hPub hpub
      by_cases p0 : 0 < s.step
      · have HN : Hid (lawfulL s = false) := lawC_no s (fun h => HPub.out (h.2 p0))
        have p0I : (0 : Int) < (s.step : Int) := by omega
        go_wp2_with (first | (go_at_call 57; refine (cs _).mono ?_; rintro e w' ⟨rfl, hw⟩; rw [hw]; clear hw w') | (go_at_call 58; refine (cp _).mono ?_; rintro e w' ⟨rfl, hw⟩; rw [hw]; clear hw w'))
        go_ret
        exact ⟨by rw [HN.out]; rfl, HW.out⟩
      · have p0' : s.step = 0 := by omega
        have p0I : (s.step : Int) = 0 := by omega
        have HC : Hid (lawC s = true) := decide_eq_true ⟨HSec.out, fun h => absurd h p0⟩
        go_upto_region 15 with (first | (go_at_call 57; refine (cs _).mono ?_; rintro e w' ⟨rfl, hw⟩; rw [hw]; clear hw w') | (go_at_call 58; refine (cp _).mono ?_; rintro e w' ⟨rfl, hw⟩; rw [hw]; clear hw w'))
        all_goals try (go_ret; exact ⟨by rw [law_no s (by intro hh; simp_all)]; rfl, HW.out⟩)
        have HY : Hid (lawfulL s = keysL s) := law_yes s HA.out HB.out HC.out (by first | (simp_all; done) | (refine ⟨fun h => absurd h (by omega), fun h => absurd h (by omega), fun h => absurd h (by omega)⟩))
        have hk := HK.out
        simp [stCells, *] at hk
        go_wp2_with (go_at_call 155; refine hk.mono ?_; rintro e w1 ⟨rfl, hb1⟩)
        go_ret
        exact ⟨by rw [HY.out]; rfl, HW.out.trans (hb1.mono HW.out.size)⟩
    | true =>
      rw [hpub] at cp
      have hPub : Pub (s.peer : Int) := of_decide_eq_true hpub
      have HC : Hid (lawC s = true) := decide_eq_true ⟨HSec.out, fun _ => hPub⟩
      clear hPub hpub
      by_cases p0 : s.step = 0
      · have p0I : (s.step : Int) = 0 := by omega
        go_upto_region 15 with (first | (go_at_call 57; refine (cs _).mono ?_; rintro e w' ⟨rfl, hw⟩; rw [hw]; clear hw w') | (go_at_call 58; refine (cp _).mono ?_; rintro e w' ⟨rfl, hw⟩; rw [hw]; clear hw w'))
        all_goals try (go_ret; exact ⟨by rw [law_no s (by intro hh; simp_all)]; rfl, HW.out⟩)
        have HY : Hid (lawfulL s = keysL s) := law_yes s HA.out HB.out HC.out (by first | (simp_all; done) | (refine ⟨fun h => absurd h (by omega), fun h => absurd h (by omega), fun h => absurd h (by omega)⟩))
        have hk := HK.out
        simp [stCells, *] at hk
        go_wp2_with (go_at_call 155; refine hk.mono ?_; rintro e w1 ⟨rfl, hb1⟩)
        go_ret
        exact ⟨by rw [HY.out]; rfl, HW.out.trans (hb1.mono HW.out.size)⟩
      by_cases p1 : s.step = 1
      · have p1I : (s.step : Int) = 1 := by omega
        clear p0
        go_upto_region 15 with (first | (go_at_call 57; refine (cs _).mono ?_; rintro e w' ⟨rfl, hw⟩; rw [hw]; clear hw w') | (go_at_call 58; refine (cp _).mono ?_; rintro e w' ⟨rfl, hw⟩; rw [hw]; clear hw w'))
        all_goals try (go_ret; exact ⟨by rw [law_no s (by intro hh; simp_all)]; rfl, HW.out⟩)
        have HY : Hid (lawfulL s = keysL s) := law_yes s HA.out HB.out HC.out (by first | (simp_all; done) | (refine ⟨fun h => absurd h (by omega), fun h => absurd h (by omega), fun h => absurd h (by omega)⟩))
        have hk := HK.out
        simp [stCells, *] at hk
        go_wp2_with (go_at_call 155; refine hk.mono ?_; rintro e w1 ⟨rfl, hb1⟩)
        go_ret
        exact ⟨by rw [HY.out]; rfl, HW.out.trans (hb1.mono HW.out.size)⟩
      by_cases p2 : s.step = 2
      · have p2I : (s.step : Int) = 2 := by omega
        clear p0 p1
        go_upto_region 15 with (first | (go_at_call 57; refine (cs _).mono ?_; rintro e w' ⟨rfl, hw⟩; rw [hw]; clear hw w') | (go_at_call 58; refine (cp _).mono ?_; rintro e w' ⟨rfl, hw⟩; rw [hw]; clear hw w'))
        all_goals try (go_ret; exact ⟨by rw [law_no s (by intro hh; simp_all)]; rfl, HW.out⟩)
        have HY : Hid (lawfulL s = keysL s) := law_yes s HA.out HB.out HC.out (by first | (simp_all; done) | (refine ⟨fun h => absurd h (by omega), fun h => absurd h (by omega), fun h => absurd h (by omega)⟩))
        have hk := HK.out
        simp [stCells, *] at hk
        go_wp2_with (go_at_call 155; refine hk.mono ?_; rintro e w1 ⟨rfl, hb1⟩)
        go_ret
        exact ⟨by rw [HY.out]; rfl, HW.out.trans (hb1.mono HW.out.size)⟩
      have p3 : 2 < s.step := by omega
      have p3I : (2 : Int) < (s.step : Int) := by omega
      have p3a : ((s.step : Int) == 0) = false := by rw [beq_eq_false_iff_ne]; omega
      have p3b : decide ((s.step : Int) ≤ 1) = false := decide_eq_false (by omega)
      have p3c : decide ((s.step : Int) ≤ 2) = false := decide_eq_false (by omega)
      have p3d : decide ((0 : Int) < (s.step : Int)) = true := decide_eq_true (by omega)
      go_upto_region 15 with (first | (go_at_call 57; refine (cs _).mono ?_; rintro e w' ⟨rfl, hw⟩; rw [hw]; clear hw w') | (go_at_call 58; refine (cp _).mono ?_; rintro e w' ⟨rfl, hw⟩; rw [hw]; clear hw w'))
      all_goals try (go_ret; exact ⟨by rw [law_no s (by intro hh; simp_all)]; rfl, HW.out⟩)
      have HY : Hid (lawfulL s = keysL s) := law_yes s HA.out HB.out HC.out (by first | (simp_all; done) | (refine ⟨fun h => absurd h (by omega), fun h => absurd h (by omega), fun h => absurd h (by omega)⟩))
      have hk := HK.out
      simp [stCells, *] at hk
      go_wp2_with (go_at_call 155; refine hk.mono ?_; rintro e w1 ⟨rfl, hb1⟩)
      go_ret
      exact ⟨by rw [HY.out]; rfl, HW.out.trans (hb1.mono HW.out.size)⟩
end Go.Proofs.Ytabpkohcimiceaa
