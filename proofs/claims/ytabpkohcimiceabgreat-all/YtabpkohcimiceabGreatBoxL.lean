import Derived.Test.YtabpkohcimiceabGreatBoxB
namespace Go.Proofs.YtabpkohcimiceabGreat
set_option maxRecDepth 100000
set_option maxHeartbeats 1000000
open Go.RowKit
set_option linter.unusedVariables false
attribute [local go_sem ↓] Go.wp_at_zero Go.wp_at_succ
theorem keysF_no (s : StM) (i : Nat) (h : keyOk s i = false) : ∀ n, i < n → keysF s n = false
  | 0, hn => by omega
  | n + 1, hn => by
    rw [keysF]
    rcases Nat.lt_or_ge i n with h1 | h1
    · rw [keysF_no s i h n h1]; rfl
    · obtain rfl : i = n := by omega
      rw [h]; simp
theorem keys_no (s : StM) (i : Nat) (hi : i < s.kept.length) (h : keyOk s i = false) : keysL s = false := by
  rw [keysL, keysF_no s i h _ hi]; simp
set_option maxHeartbeats 2000000 in
theorem keys_any (s : StM) (v : Value) (w : World) (hs : StOk s) (hv : EntsAt w v s.kept) :
    Calls Tryz.prog 147 #[.agg (stCells s v)] w fun e w' => e = .returned (.bool (keysL s)) ∧ Below w.heap.size w w' := by
  obtain ⟨a, cap, hva⟩ := hv.form; subst hva; have o1 := hs.step; have o3 := hs.got; have o5 := hs.skip; have o6 := hs.cap; have o12 := hs.kept; have o13 := hs.keys; clear hs; have hst := StAt.made w s (.slice a s.kept.length cap); have hbl : Below w.heap.size w (w.alloc (.cells (stCells s (.slice a s.kept.length cap)) 63)) := (Below.refl _ _).alloc (Nat.le_refl _) _
  go_enter Tryz.func147, Tryz.ntmps147
  go_upto_region 1 with fail
  generalize w.alloc (.cells (stCells s (.slice a s.kept.length cap)) 63) = wb at hst hbl ⊢
  obtain ⟨B, hB⟩ : ∃ B, B = w.heap.size := ⟨_, rfl⟩
  rw [← hB] at hst ⊢
  have HW := hid hbl; have HS : Hid (StAt wb B s (.slice a s.kept.length cap)) := hst; have HV : Hid (EntsAt wb (.slice a s.kept.length cap) s.kept) := hv.next hbl; have h6 := hst.c6; have h12 := hst.c12; clear hB hbl hv hst
  by_cases hc : s.cap < s.kept.length
  · have hcI : (s.cap : Int) < (s.kept.length : Int) := by omega
    have e1 : Hid (keysL s = false) := by show _ = _; rw [keysL, decide_eq_false (by omega)]; rfl
    go_wp2; go_ret
    exact ⟨by rw [e1.out]; rfl, HW.out⟩
  have hcI : ¬ (s.cap : Int) < (s.kept.length : Int) := by omega
  go_wp2; clear h6 h12
  go_loopg [3] (s.kept.length + 1) (fun g c wr => ∃ i : Nat, c = .int .i64 i ∧ i ≤ s.kept.length ∧ g + i = s.kept.length + 1 ∧ keysF s i = true ∧ Below wb.heap.size wb wr)
  case atStart => exact ⟨0, rfl, by omega, by omega, rfl, Below.refl _ _⟩
  case round =>
    obtain ⟨i, rfl, hi, hg, hk, hbr⟩ := hrel; have HK : Hid (keysF s i = true) := hk; have HR := hid hbr; have hst2 := HS.out.next hbr; have hv2 := HV.out.next hbr; clear hk hbr; obtain ⟨lt, _, h1, _, h3, _, h5, h6, _, _, _, _, _, h12⟩ := hst2
    by_cases hlt : i < s.kept.length
    · obtain ⟨g, cap', hv', hcc, hgs, e0, e1, e2⟩ := hv2.cells hlt
      injection hv' with q1 q2 q3
      subst q1 q3
      obtain ⟨k1, k2, k3⟩ := o13 (s.kept.getD i default) (by rw [List.getD_eq_getElem?_getD, List.getElem?_eq_getElem hlt]; exact List.getElem_mem _)
      have hil : (i : Int) < (s.kept.length : Int) := by omega
      obtain ⟨en, hen⟩ : ∃ en, en = s.kept.getD i default := ⟨_, rfl⟩
      rw [← hen] at e0 e1 e2 k1 k2 k3
      have cof := fun w h => of_any s.kept (.slice (some ⟨g, 0, none⟩) s.kept.length cap) en.step w h (by omega)
      have HEN : Hid (en = s.kept.getD i default) := hen
      have HV3 : Hid (∀ w', Below wr.heap.size wr w' → EntsAt w' (.slice (some ⟨g, 0, none⟩) s.kept.length cap) s.kept) := fun w' h => hv2.next h
      clear hen hv2
      obtain ⟨q, hq⟩ : ∃ q, q = ofL s.kept en.step := ⟨_, rfl⟩
      have hql := ofL_le s.kept en.step
      rw [← hq] at cof hql
      by_cases tA : s.skip < q
      · have tA' : (s.skip : Int) < (q : Int) := by omega
        have HN : Hid (keysL s = false) := keys_no s i hlt (by simp only [keyOk, ← HEN.out]; simp [← hq, tA])
        go_wp2_with (go_at_call 159; refine (cof _ (HV3.out _ ((Below.refl _ _).alloc (Nat.le_refl _) _))).mono ?_; rintro e w' ⟨rfl, hw⟩; rw [hw]; clear hw w')
        go_ret
        exact ⟨by rw [HN.out]; rfl, (HW.out.trans (HR.out.mono HW.out.size)).alloc (by have := HW.out.size; have := HR.out.size; omega) _⟩
      have tA' : ¬ (s.skip : Int) < (q : Int) := by omega
      by_cases tB : en.step < 1
      · have tB' : (en.step : Int) < 1 := by omega
        have HN : Hid (keysL s = false) := keys_no s i hlt (by simp only [keyOk, ← HEN.out]; simp [tB])
        go_wp2_with (go_at_call 159; refine (cof _ (HV3.out _ ((Below.refl _ _).alloc (Nat.le_refl _) _))).mono ?_; rintro e w' ⟨rfl, hw⟩; rw [hw]; clear hw w')
        go_ret
        exact ⟨by rw [HN.out]; rfl, (HW.out.trans (HR.out.mono HW.out.size)).alloc (by have := HW.out.size; have := HR.out.size; omega) _⟩
      have tB' : ¬ (en.step : Int) < 1 := by omega
      by_cases tC : s.step ≤ en.step
      · have tC' : (s.step : Int) ≤ (en.step : Int) := by omega
        have HN : Hid (keysL s = false) := keys_no s i hlt (by simp only [keyOk, ← HEN.out]; simp [tC])
        go_wp2_with (go_at_call 159; refine (cof _ (HV3.out _ ((Below.refl _ _).alloc (Nat.le_refl _) _))).mono ?_; rintro e w' ⟨rfl, hw⟩; rw [hw]; clear hw w')
        go_ret
        exact ⟨by rw [HN.out]; rfl, (HW.out.trans (HR.out.mono HW.out.size)).alloc (by have := HW.out.size; have := HR.out.size; omega) _⟩
      have tC' : ¬ (s.step : Int) ≤ (en.step : Int) := by omega
      by_cases tD : (en.step + s.step) % 2 = 0
      · have tD' : ((en.step : Int) + (s.step : Int)) % 2 = 0 := by omega
        have HN : Hid (keysL s = false) := keys_no s i hlt (by simp only [keyOk, ← HEN.out]; simp [tD])
        go_wp2_with (go_at_call 159; refine (cof _ (HV3.out _ ((Below.refl _ _).alloc (Nat.le_refl _) _))).mono ?_; rintro e w' ⟨rfl, hw⟩; rw [hw]; clear hw w')
        go_ret
        exact ⟨by rw [HN.out]; rfl, (HW.out.trans (HR.out.mono HW.out.size)).alloc (by have := HW.out.size; have := HR.out.size; omega) _⟩
      have tD' : ¬ ((en.step : Int) + (s.step : Int)) % 2 = 0 := by omega
      by_cases tE : 49 < en.count
      · have tE' : (49 : Int) < (en.count : Int) := by omega
        have HN : Hid (keysL s = false) := keys_no s i hlt (by simp only [keyOk, ← HEN.out]; simp [tE])
        go_wp2_with (go_at_call 159; refine (cof _ (HV3.out _ ((Below.refl _ _).alloc (Nat.le_refl _) _))).mono ?_; rintro e w' ⟨rfl, hw⟩; rw [hw]; clear hw w')
        go_ret
        exact ⟨by rw [HN.out]; rfl, (HW.out.trans (HR.out.mono HW.out.size)).alloc (by have := HW.out.size; have := HR.out.size; omega) _⟩
      have tE' : ¬ (49 : Int) < (en.count : Int) := by omega
      have HQ : Hid (q = ofL s.kept en.step) := hq; clear hq; have dA : decide (s.skip < q) = false := decide_eq_false tA; have dB : decide ((en.step : Int) < 1) = false := decide_eq_false tB'
      have dD : (((en.step : Int) + (s.step : Int)) % 2 == 0) = false := by rw [beq_eq_false_iff_ne]; exact tD'
      have dE : decide ((49 : Int) < (en.count : Int)) = false := decide_eq_false tE'
      by_cases tF : en.step + 1 = s.step ∧ s.got ≤ en.count
      · have tF1 : (en.step : Int) + 1 = (s.step : Int) := by omega
        have tF2 : (s.got : Int) ≤ (en.count : Int) := by omega
        have HN : Hid (keysL s = false) := keys_no s i hlt (by simp only [keyOk, ← HEN.out]; simp [tF.1, tF.2])
        go_wp2_with (go_at_call 159; refine (cof _ (HV3.out _ ((Below.refl _ _).alloc (Nat.le_refl _) _))).mono ?_; rintro e w' ⟨rfl, hw⟩; rw [hw]; clear hw w')
        go_ret
        exact ⟨by rw [HN.out]; rfl, (HW.out.trans (HR.out.mono HW.out.size)).alloc (by have := HW.out.size; have := HR.out.size; omega) _⟩
      have hko : keyOk s i = (decide (i = 0) || beforeL (s.kept.getD (i - 1) default) en) := by
        have tF' : (en.step + 1 == s.step && decide (s.got ≤ en.count)) = false := by
          rw [Bool.and_eq_false_iff]
          by_cases h : en.step + 1 = s.step
          · right; simp; omega
          · left; simpa using h
        simp only [keyOk, ← HEN.out, tF']
        simp [← HQ.out, tA, tB, tC, tD, tE]
      have HKO : Hid (keyOk s i = (decide (i = 0) || beforeL (s.kept.getD (i - 1) default) en)) := hko; clear hko
      have tFI : ¬ (en.step : Int) + 1 = (s.step : Int) ∨ ((en.step : Int) + 1 = (s.step : Int) ∧ ¬ (s.got : Int) ≤ (en.count : Int)) := by omega
      clear tF hql
      cases i with
      | zero =>
        have HF : Hid (keysF s (0 + 1) = true) := by show _ = _; rw [keysF, HK.out, HKO.out]; rfl
        rcases tFI with tF1 | ⟨tF1, tF2⟩
        all_goals
          go_wp2_with (go_at_call 159; refine (cof _ (HV3.out _ ((Below.refl _ _).alloc (Nat.le_refl _) _))).mono ?_; rintro e w' ⟨rfl, hw⟩; rw [hw]; clear hw w')
          go_roundg (gk - 1)
          case measure => omega
          case rel => exact ⟨0 + 1, rfl, by omega, by omega, HF.out, (HR.out).alloc (by have := HR.out.size; omega) _⟩
      | succ j =>
        obtain ⟨g', cap'', hv'', _, hgs', p0, p1, p2⟩ := (HV3.out wr (Below.refl _ _)).cells (show j < s.kept.length by omega)
        injection hv'' with q1 q2 q3
        injection q1 with q1
        injection q1 with q1
        subst q1 q3
        have hj0 : (0 : Int) ≤ (j : Int) := by omega
        have hjl : (j : Int) < (s.kept.length : Int) := by omega
        have hwj : IntKind.i64.wrap (j : Int) = (j : Int) := by rw [IntKind.wrap_i64]; omega
        have hwj' : IntKind.i64.wrap ((j : Int) + 1 - 1) = (j : Int) := by rw [IntKind.wrap_i64]; omega
        have HF : Hid (keysF s (j + 1 + 1) = beforeL (s.kept.getD j default) en) := by show _ = _; rw [keysF, HK.out, HKO.out]; simp
        have HN : Hid (beforeL (s.kept.getD j default) en = false → keysL s = false) := fun h => keys_no s (j + 1) hlt (by rw [HKO.out]; simpa using h)
        generalize s.kept.getD j default = pe at p0 p1 p2 HF HN
        have cbe := fun w => before_any pe en w
        cases hbe : beforeL pe en with
        | true =>
          rw [hbe] at cbe
          have HF2 : Hid (keysF s (j + 1 + 1) = true) := by rw [← hbe]; exact HF.out
          clear hbe
          rcases tFI with tF1 | ⟨tF1, tF2⟩
          all_goals
            go_upto_region 13 with (go_at_call 159; refine (cof _ (HV3.out _ ((Below.refl _ _).alloc (Nat.le_refl _) _))).mono ?_; rintro e w' ⟨rfl, hw⟩; rw [hw]; clear hw w')
            go_region_held3 (fun w' => w'.cell? ⟨B, 12, none⟩ = some (.slice (some ⟨g, 0, none⟩) s.kept.length cap) ∧ w'.cell? ⟨g, j * 3, none⟩ = some (.int .i64 pe.step) ∧ w'.cell? ⟨g, j * 3 + 1, none⟩ = some (.int .i64 pe.count) ∧ w'.cell? ⟨g, j * 3 + 2, none⟩ = some (.string (str pe.key)) ∧ w'.cell? ⟨wr.heap.size, 0, none⟩ = some (.int .i64 en.step) ∧ w'.cell? ⟨wr.heap.size, 1, none⟩ = some (.int .i64 en.count) ∧ w'.cell? ⟨wr.heap.size, 2, none⟩ = some (.string (str en.key)))
              (simp (maxDischargeDepth := 40) [World.cell?_alloc_some, h12, p0, p1, p2])
              (first | (go_at_call 165; go_must (refine (cbe _).mono ?_); rintro e w1 ⟨rfl, x, y, rfl⟩))
            go_wp2
            go_roundg (gk - 1)
            case measure => omega
            case rel =>
              refine ⟨j + 1 + 1, by simp, by omega, by omega, HF2.out, ?_⟩
              have hr := HR.out
              repeat (first | exact hr | apply Below.drew | (refine Below.alloc ?_ (by have := hr.size; first | omega | (simp; omega)) _))
        | false =>
          rw [hbe] at cbe
          have HN2 : Hid (keysL s = false) := HN.out hbe; clear hbe
          rcases tFI with tF1 | ⟨tF1, tF2⟩
          all_goals
            go_upto_region 13 with (go_at_call 159; refine (cof _ (HV3.out _ ((Below.refl _ _).alloc (Nat.le_refl _) _))).mono ?_; rintro e w' ⟨rfl, hw⟩; rw [hw]; clear hw w')
            go_region_held3 (fun w' => w'.cell? ⟨B, 12, none⟩ = some (.slice (some ⟨g, 0, none⟩) s.kept.length cap) ∧ w'.cell? ⟨g, j * 3, none⟩ = some (.int .i64 pe.step) ∧ w'.cell? ⟨g, j * 3 + 1, none⟩ = some (.int .i64 pe.count) ∧ w'.cell? ⟨g, j * 3 + 2, none⟩ = some (.string (str pe.key)) ∧ w'.cell? ⟨wr.heap.size, 0, none⟩ = some (.int .i64 en.step) ∧ w'.cell? ⟨wr.heap.size, 1, none⟩ = some (.int .i64 en.count) ∧ w'.cell? ⟨wr.heap.size, 2, none⟩ = some (.string (str en.key)))
              (simp (maxDischargeDepth := 40) [World.cell?_alloc_some, h12, p0, p1, p2])
              (first | (go_at_call 165; go_must (refine (cbe _).mono ?_); rintro e w1 ⟨rfl, x, y, rfl⟩))
            go_wp2; go_ret
            refine ⟨by rw [HN2.out]; rfl, ?_⟩
            have hr := HW.out.trans (HR.out.mono HW.out.size)
            repeat (first | exact hr | apply Below.drew | (refine Below.alloc ?_ (by have := hr.size; first | omega | (simp; omega)) _))
    · obtain rfl : i = s.kept.length := by omega
      have e1 : Hid (keysL s = true) := by show _ = _; rw [keysL, HK.out, decide_eq_true (by omega)]; rfl
      go_wp2; go_ret
      exact ⟨by rw [e1.out]; rfl, HW.out.trans (HR.out.mono HW.out.size)⟩
end Go.Proofs.YtabpkohcimiceabGreat
