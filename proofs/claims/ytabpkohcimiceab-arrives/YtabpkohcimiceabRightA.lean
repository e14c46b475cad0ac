import Derived.Test.YtabpkohcimiceabBoxE
import Derived.Deep.QuietTactic
import Derived.BigQuiet
namespace Go.Proofs.Ytabpkohcimiceab
set_option maxRecDepth 100000
set_option maxHeartbeats 1000000
open Go.RowKit
set_option linter.unusedVariables false
def KeyP (s : StM) (k : EntM) : Prop := (1 ≤ k.step ∧ k.step < s.step ∧ k.step % 2 ≠ s.step % 2 ∧ k.count < 50) ∧ (k.step + 1 = s.step → k.count < s.got)
instance (s : StM) (k : EntM) : Decidable (KeyP s k) := inferInstanceAs (Decidable (_ ∧ _))
theorem key_last (s : StM) (k : EntM) (hA : 1 ≤ k.step ∧ k.step < s.step ∧ k.step % 2 ≠ s.step % 2 ∧ k.count < 50) (h : (k.step : Int) = (s.step : Int) - 1) : decide (k.count < s.got) = decide (KeyP s k) := by
  by_cases q : k.count < s.got
  · rw [decide_eq_true q, decide_eq_true ⟨hA, fun _ => q⟩]
  · rw [decide_eq_false q, decide_eq_false (fun x : KeyP s k => q (x.2 (by omega)))]
theorem key_free (s : StM) (k : EntM) (hA : 1 ≤ k.step ∧ k.step < s.step ∧ k.step % 2 ≠ s.step % 2 ∧ k.count < 50) (h : ¬ (k.step : Int) = (s.step : Int) - 1) : true = decide (KeyP s k) := by
  rw [decide_eq_true ⟨hA, fun x => by omega⟩]
theorem keptIsRight_any (s : StM) (v : Value) (k : EntM) (w : World) (hss : s.step ≤ 255) :
    Calls Try.prog 108 #[.agg (stCells s v), .agg #[.int .i64 k.step, .int .i64 k.count, .string (str k.key)]] w fun e w' => e = .returned (.bool (decide (KeyP s k))) ∧ ∃ x y, w' = (w.alloc (.cells x 84)).alloc (.cells y 142) := by
  unfold stCells
  obtain ⟨P, hP⟩ : ∃ P, P = decide (KeyP s k) := ⟨_, rfl⟩
  rw [← hP]; have HP : Hid (P = decide (KeyP s k)) := hP; clear hP
  by_cases t1 : k.step < 1
  · have t1' : (k.step : Int) < 1 := by omega
    have HE : Hid (P = false) := by show P = false; rw [HP.out]; exact decide_eq_false (fun h : KeyP s k => by have := h.1.1; omega)
    go_enter Try.func108, Try.ntmps108
    go_wp2; go_ret
    exact ⟨by rw [HE.out]; rfl, _, _, rfl⟩
  have t1' : ¬ (k.step : Int) < 1 := by omega
  have d1 : decide ((k.step : Int) < 1) = false := decide_eq_false t1'
  by_cases t2 : s.step ≤ k.step
  · have t2' : (s.step : Int) ≤ (k.step : Int) := by omega
    have HE : Hid (P = false) := by show P = false; rw [HP.out]; exact decide_eq_false (fun h : KeyP s k => by have := h.1.2.1; omega)
    go_enter Try.func108, Try.ntmps108
    go_wp2; go_ret
    exact ⟨by rw [HE.out]; rfl, _, _, rfl⟩
  have t2' : ¬ (s.step : Int) ≤ (k.step : Int) := by omega
  have d2 : decide (s.step ≤ k.step) = false := decide_eq_false t2
  by_cases t3 : k.step % 2 = s.step % 2
  · have t3' : (k.step : Int) % 2 = (s.step : Int) % 2 := by omega
    have d3 : ((k.step : Int) % 2 == (s.step : Int) % 2) = true := by rw [beq_iff_eq]; exact t3'
    have HE : Hid (P = false) := by show P = false; rw [HP.out]; exact decide_eq_false (fun h : KeyP s k => h.1.2.2.1 t3)
    clear t3 t3'
    go_enter Try.func108, Try.ntmps108
    go_wp2; go_ret
    exact ⟨by rw [HE.out]; rfl, _, _, rfl⟩
  have d3 : ((k.step : Int) % 2 == (s.step : Int) % 2) = false := by rw [beq_eq_false_iff_ne]; omega
  by_cases t4 : 50 ≤ k.count
  · have t4' : (50 : Int) ≤ (k.count : Int) := by omega
    have HE : Hid (P = false) := by show P = false; rw [HP.out]; exact decide_eq_false (fun h : KeyP s k => by have := h.1.2.2.2; omega)
    go_enter Try.func108, Try.ntmps108
    go_wp2; go_ret
    exact ⟨by rw [HE.out]; rfl, _, _, rfl⟩
  have t4' : ¬ (50 : Int) ≤ (k.count : Int) := by omega
  have d4 : decide ((50 : Int) ≤ (k.count : Int)) = false := decide_eq_false t4'
  have HA : Hid (1 ≤ k.step ∧ k.step < s.step ∧ k.step % 2 ≠ s.step % 2 ∧ k.count < 50) := by
    show _ ∧ _
    exact ⟨by omega, by omega, t3, by omega⟩
  clear t1 t2 t3 t4
  go_enter Try.func108, Try.ntmps108
  go_wp2
  all_goals go_ret
  all_goals refine ⟨?_, _, _, rfl⟩
  all_goals rw [HP.out]
  · rw [← key_last s k HA.out (by assumption)]; rfl
  · rw [← key_free s k HA.out (by assumption)]; rfl
theorem isBefore_any (a b : EntM) (w : World) :
    Calls Try.prog 109 #[.agg #[.int .i64 a.step, .int .i64 a.count, .string (str a.key)], .agg #[.int .i64 b.step, .int .i64 b.count, .string (str b.key)]] w fun e w' => e = .returned (.bool (beforeL a b)) ∧ ∃ x y, w' = (w.alloc (.cells x 142)).alloc (.cells y 142) := by
  by_cases h1 : a.step < b.step
  · have e1 : beforeL a b = true := by simp [beforeL, h1]
    rw [e1]
    have h1' : (a.step : Int) < (b.step : Int) := by omega
    go_enter Try.func109, Try.ntmps109
    go_wp2; go_ret; exact ⟨rfl, _, _, rfl⟩
  · have h1' : ¬ (a.step : Int) < (b.step : Int) := by omega
    by_cases h2 : a.step = b.step
    · have h2' : (a.step : Int) = (b.step : Int) := by omega
      by_cases h3 : a.count < b.count
      · have e1 : beforeL a b = true := by simp [beforeL, h2, h3]
        rw [e1]
        have h3' : (a.count : Int) < (b.count : Int) := by omega
        go_enter Try.func109, Try.ntmps109
        go_wp2; go_ret; exact ⟨rfl, _, _, rfl⟩
      · have e1 : beforeL a b = false := by simp [beforeL, h2, h3]
        rw [e1]
        have h3' : ¬ (a.count : Int) < (b.count : Int) := by omega
        go_enter Try.func109, Try.ntmps109
        go_wp2; go_ret; exact ⟨rfl, _, _, rfl⟩
    · have e1 : beforeL a b = false := by simp [beforeL, h1, h2]
      rw [e1]
      have h2' : ¬ (a.step : Int) = (b.step : Int) := by omega
      go_enter Try.func109, Try.ntmps109
      go_wp2; go_ret; exact ⟨rfl, _, _, rfl⟩
attribute [local go_sem ↓] Go.wp_at_zero Go.wp_at_succ
def runN (s : StM) : Nat → Nat
  | 0 => 0
  | i + 1 => (if 0 < i ∧ (s.kept.getD (i - 1) default).step ≠ (s.kept.getD i default).step then 0 else runN s i) + 1
def rightF (s : StM) : Nat → Bool
  | 0 => true
  | i + 1 => rightF s i && (decide (KeyP s (s.kept.getD i default)) && ((decide (i = 0) || beforeL (s.kept.getD (i - 1) default) (s.kept.getD i default)) && decide (runN s (i + 1) ≤ s.skip)))
theorem right_no (s : StM) (i : Nat) (h : rightF s (i + 1) = false) : ∀ n, i < n → rightF s n = false
  | 0, hn => by omega
  | n + 1, hn => by
    rcases Nat.lt_or_ge i n with h1 | h1
    · rw [rightF, right_no s i h n h1]; rfl
    · obtain rfl : i = n := by omega
      exact h
theorem runN_le (s : StM) : ∀ i, runN s i ≤ i
  | 0 => Nat.le_refl _
  | i + 1 => by
    have := runN_le s i
    rw [runN]; split <;> omega
set_option maxHeartbeats 4000000 in
theorem keptRight_any (s : StM) (v : Value) (w : World) (hs : StOk s) (hv : EntsAt w v s.kept) :
    Calls Try.prog 107 #[.agg (stCells s v)] w fun e w' => e = .returned (.bool (rightF s s.kept.length)) ∧ Below w.heap.size w w' := by
  obtain ⟨a, cap, hva⟩ := hv.form; subst hva; have o1 := hs.step; have o5 := hs.skip; have o12 := hs.kept; have o13 := hs.keys; clear hs; have hst := StAt.madeD w s (.slice a s.kept.length cap); have hbl : Below w.heap.size w (w.alloc (.cells (stCells s (.slice a s.kept.length cap)) 84)) := (Below.refl _ _).alloc (Nat.le_refl _) _
  go_enter Try.func107, Try.ntmps107
  go_upto_region 1 with fail
  generalize w.alloc (.cells (stCells s (.slice a s.kept.length cap)) 84) = wb at hst hbl ⊢
  obtain ⟨B, hB⟩ : ∃ B, B = w.heap.size := ⟨_, rfl⟩
  rw [← hB] at hst ⊢
  have HW := hid hbl; have HS : Hid (StAt wb B s (.slice a s.kept.length cap)) := hst; have HV : Hid (EntsAt wb (.slice a s.kept.length cap) s.kept) := hv.next hbl; clear hB hbl hv hst; go_wp2
  go_loopg [3, 4] (s.kept.length + 1) (fun g r c wr => ∃ i : Nat, c = .int .i64 i ∧ r = .int .i64 (runN s i : Nat) ∧ i ≤ s.kept.length ∧ g + i = s.kept.length + 1 ∧ rightF s i = true ∧ Below wb.heap.size wb wr)
  case atStart => exact ⟨0, rfl, rfl, by omega, by omega, rfl, Below.refl _ _⟩
  case round =>
    obtain ⟨i, rfl, rfl, hi, hg, hk, hbr⟩ := hrel; have HK : Hid (rightF s i = true) := hk; have HR := hid hbr; have HS2 : Hid (StAt wr B s (.slice a s.kept.length cap)) := HS.out.next hbr; have HV2 : Hid (EntsAt wr (.slice a s.kept.length cap) s.kept) := HV.out.next hbr; have hrl := runN_le s i; clear hk hbr
    by_cases hlt : i < s.kept.length
    · obtain ⟨g, cap', hv', hcc, hgs, e0, e1, e2⟩ := HV2.out.cells hlt
      injection hv' with q1 q2 q3
      subst q1 q3
      have hil : (i : Int) < (s.kept.length : Int) := by omega
      have hi0 : (0 : Int) ≤ (i : Int) := by omega
      obtain ⟨en, hen⟩ : ∃ en, en = s.kept.getD i default := ⟨_, rfl⟩
      rw [← hen] at e0 e1 e2
      have HEN : Hid (en = s.kept.getD i default) := hen; clear hen
      obtain ⟨rr, hrr⟩ : ∃ rr, rr = runN s i := ⟨_, rfl⟩
      rw [← hrr] at hrl ⊢
      have HRR : Hid (rr = runN s i) := hrr; clear hrr; obtain ⟨lt, h0, h1, h2, h3, h4, h5, h6, h7, h8, h9, h10, h11, h12⟩ := HS2.out
      have ck := fun w => keptIsRight_any s (.slice (some ⟨g, 0, none⟩) s.kept.length cap) en w o1
      unfold stCells at ck
      obtain ⟨kp, hkp⟩ : ∃ kp, kp = decide (KeyP s en) := ⟨_, rfl⟩
      rw [← hkp] at ck
      have HKP : Hid (kp = decide (KeyP s en)) := hkp; clear hkp
      go_upto_region 5 with fail
      go_cut [19] (fun t wx => t = .bool (!kp) ∧ Below wr.heap.size wr wx)
      case first =>
        go_region_held3 (fun w' => w'.cell? ⟨B, 0, none⟩ = some (.int .i64 s.role) ∧ w'.cell? ⟨B, 1, none⟩ = some (.int .i64 s.step) ∧ w'.cell? ⟨B, 2, none⟩ = some (.int .i64 s.sent) ∧ w'.cell? ⟨B, 3, none⟩ = some (.int .i64 s.got) ∧ w'.cell? ⟨B, 4, none⟩ = some (.int .i64 s.prev) ∧ w'.cell? ⟨B, 5, none⟩ = some (.int .i64 s.skip) ∧ w'.cell? ⟨B, 6, none⟩ = some (.int .i64 s.cap) ∧ w'.cell? ⟨B, 7, none⟩ = some (.string (str s.root)) ∧ w'.cell? ⟨B, 8, none⟩ = some (.string (str s.out)) ∧ w'.cell? ⟨B, 9, none⟩ = some (.string (str s.inn)) ∧ w'.cell? ⟨B, 10, none⟩ = some (.int .i64 s.secret) ∧ w'.cell? ⟨B, 11, none⟩ = some (.int .i64 s.peer) ∧ w'.cell? ⟨B, 12, none⟩ = some (.slice (some ⟨g, 0, none⟩) s.kept.length cap) ∧ w'.cell? ⟨g, i * 3, none⟩ = some (.int .i64 en.step) ∧ w'.cell? ⟨g, i * 3 + 1, none⟩ = some (.int .i64 en.count) ∧ w'.cell? ⟨g, i * 3 + 2, none⟩ = some (.string (str en.key)))
          (simp (maxDischargeDepth := 40) [World.cell?_alloc_some, h0, h1, h2, h3, h4, h5, h6, h7, h8, h9, h10, h11, h12, e0, e1, e2])
          (first | (go_at_call 108; go_must (refine (ck _).mono ?_); rintro e w1 ⟨rfl, x, y, rfl⟩))
        go_wp2_with fail
        go_meet
        case rel =>
          refine ⟨rfl, ?_⟩
          repeat (first | exact Below.refl _ _ | apply Below.drew | (refine Below.alloc ?_ (by first | exact Nat.le_refl _ | (simp; done) | (simp; omega)) _))
      case rest =>
        obtain ⟨hc1, hb1⟩ := hcut; subst hc1; have HS3 : Hid (StAt wc B s (.slice (some ⟨g, 0, none⟩) s.kept.length cap)) := HS2.out.next hb1; have HV3 : Hid (EntsAt wc (.slice (some ⟨g, 0, none⟩) s.kept.length cap) s.kept) := HV2.out.next hb1; have HR3 : Hid (Below wb.heap.size wb wc) := below_tr HR.out hb1
        have HRF : Hid (rightF s (i + 1) = (kp && ((decide (i = 0) || beforeL (s.kept.getD (i - 1) default) en) && decide (runN s (i + 1) ≤ s.skip)))) := by
          show _ = _
          rw [rightF, HK.out, HKP.out, HEN.out, Bool.true_and]
        clear hb1 HS2 HV2 HR lt h0 h1 h2 h3 h4 h5 h6 h7 h8 h9 h10 h11 h12 e0 e1 e2 hgs ck
        cases kp with
        | false =>
          have HN : Hid (rightF s s.kept.length = false) := right_no s i (by rw [HRF.out]; rfl) _ hlt
          go_wp2; go_ret
          exact ⟨by rw [HN.out]; rfl, HW.out.trans (HR3.out.mono HW.out.size)⟩
        | true =>
          obtain ⟨g', cap', hv', hcc', hgs, e0, e1, e2⟩ := HV3.out.cells hlt
          injection hv' with q1 q2 q3
          injection q1 with q1
          injection q1 with q1
          subst q1 q3
          rw [← HEN.out] at e0 e1 e2
          have h5 := HS3.out.c5; have h12 := HS3.out.c12; have hlt' := HS3.out.lt
          cases i with
          | zero =>
            have hrr0 : rr = 0 := by have := HRR.out; exact this
            subst hrr0
            have HF : Hid (rightF s (0 + 1) = decide (1 ≤ s.skip)) := by show _ = _; rw [HRF.out]; rfl
            have HR1 : Hid (runN s (0 + 1) = 1) := rfl; have z0 : decide ((0 : Int) < 0) = false := rfl
            by_cases hsk : 1 ≤ s.skip
            · have hskI : ¬ (s.skip : Int) < 1 := by omega
              rw [decide_eq_true hsk] at HF
              go_upto_region 7 with fail
              go_quiet (fail)
              go_upto_region 9 with fail
              go_quiet (fail)
              go_wp2
              go_roundg (gk - 1)
              case measure => omega
              case rel => exact ⟨0 + 1, rfl, by rw [HR1.out]; rfl, by omega, by omega, HF.out, HR3.out.trans ⟨rfl, rfl, rfl, Nat.le_refl _, fun _ _ => rfl⟩⟩
            · have hskI : (s.skip : Int) < 1 := by omega
              rw [decide_eq_false hsk] at HF
              have HN : Hid (rightF s s.kept.length = false) := right_no s 0 HF.out _ hlt
              go_upto_region 7 with fail
              go_quiet (fail)
              go_upto_region 9 with fail
              go_quiet (fail)
              go_wp2; go_ret
              exact ⟨by rw [HN.out]; rfl, (HW.out.trans (HR3.out.mono HW.out.size)).trans ⟨rfl, rfl, rfl, Nat.le_refl _, fun _ _ => rfl⟩⟩
          | succ j =>
            obtain ⟨g'', cap'', hv'', _, hgs', p0, p1, p2⟩ := HV3.out.cells (show j < s.kept.length by omega)
            injection hv'' with q1 q2 q3
            injection q1 with q1
            injection q1 with q1
            subst q1 q3
            have hj0 : (0 : Int) ≤ (j : Int) := by omega
            have hjl : (j : Int) < (s.kept.length : Int) := by omega
            have hwj' : IntKind.i64.wrap ((j : Int) + 1 - 1) = (j : Int) := by rw [IntKind.wrap_i64]; omega
            have hwj : IntKind.i64.wrap (j : Int) = (j : Int) := by rw [IntKind.wrap_i64]; omega
            have hj1 : (0 : Int) < (j : Int) + 1 := by omega
            have hja : (0 : Int) ≤ (j : Int) + 1 := by omega
            have hjb : (j : Int) + 1 < (s.kept.length : Int) := by omega
            have dj1 : decide ((0 : Int) < (j : Int) + 1) = true := decide_eq_true hj1
            have HRN : Hid (runN s (j + 1 + 1) = (if (s.kept.getD j default).step ≠ en.step then 0 else rr) + 1) := by
              show _ = _
              rw [runN, HRR.out, HEN.out]
              simp
            have HRF2 : Hid (rightF s (j + 1 + 1) = (beforeL (s.kept.getD j default) en && decide (runN s (j + 1 + 1) ≤ s.skip))) := by
              show _ = _
              rw [HRF.out]; simp
            generalize s.kept.getD j default = pe at p0 p1 p2 HRN HRF2
            have cbe := fun w => isBefore_any pe en w
            obtain ⟨bf, hbf⟩ : ∃ bf, bf = beforeL pe en := ⟨_, rfl⟩
            rw [← hbf] at cbe
            have HBF : Hid (bf = beforeL pe en) := hbf; clear hbf
            go_upto_region 7 with fail
            go_cut [36] (fun t wx => t = .bool (!bf) ∧ Below wc.heap.size wc wx)
            case first =>
              go_region_held3 (fun w' => w'.cell? ⟨B, 12, none⟩ = some (.slice (some ⟨g, 0, none⟩) s.kept.length cap) ∧ w'.cell? ⟨g, j * 3, none⟩ = some (.int .i64 pe.step) ∧ w'.cell? ⟨g, j * 3 + 1, none⟩ = some (.int .i64 pe.count) ∧ w'.cell? ⟨g, j * 3 + 2, none⟩ = some (.string (str pe.key)) ∧ w'.cell? ⟨g, (j + 1) * 3, none⟩ = some (.int .i64 en.step) ∧ w'.cell? ⟨g, (j + 1) * 3 + 1, none⟩ = some (.int .i64 en.count) ∧ w'.cell? ⟨g, (j + 1) * 3 + 2, none⟩ = some (.string (str en.key)))
                (simp (maxDischargeDepth := 40) [World.cell?_alloc_some, h12, p0, p1, p2, e0, e1, e2])
                (first | (go_at_call 109; go_must (refine (cbe _).mono ?_); rintro e w1 ⟨rfl, x, y, rfl⟩))
              go_wp2_with fail
              go_meet
              case rel =>
                refine ⟨rfl, ?_⟩
                repeat (first | exact Below.refl _ _ | apply Below.drew | (refine Below.alloc ?_ (by first | exact Nat.le_refl _ | (simp; done) | (simp; omega)) _))
            case rest =>
              obtain ⟨hc1, hb1⟩ := hcut; subst hc1; have HS4 : Hid (StAt wc B s (.slice (some ⟨g, 0, none⟩) s.kept.length cap)) := HS3.out.next hb1; have HV4 : Hid (EntsAt wc (.slice (some ⟨g, 0, none⟩) s.kept.length cap) s.kept) := HV3.out.next hb1; have HR4 : Hid (Below wb.heap.size wb wc) := below_tr HR3.out hb1; have E0 := (hb1.cell (p := ⟨g, (j + 1) * 3, none⟩) hgs).trans e0; have P0 := (hb1.cell (p := ⟨g, j * 3, none⟩) hgs).trans p0; clear hb1 HS3 HV3 HR3 e0 e1 e2 p0 p1 p2 h12 h5 hgs hgs' hlt' cbe; have h5 := HS4.out.c5; have h12 := HS4.out.c12
              cases bf with
              | false =>
                have HN : Hid (rightF s s.kept.length = false) := right_no s (j + 1) (by rw [HRF2.out, ← HBF.out]; rfl) _ hlt
                go_wp2; go_ret
                exact ⟨by rw [HN.out]; rfl, HW.out.trans (HR4.out.mono HW.out.size)⟩
              | true =>
                have HF : Hid (rightF s (j + 1 + 1) = decide (runN s (j + 1 + 1) ≤ s.skip)) := by show _ = _; rw [HRF2.out, ← HBF.out]; rfl
                by_cases hst : pe.step = en.step
                · rw [hst] at P0
                  have HRQ : Hid (runN s (j + 1 + 1) = rr + 1) := by show _ = _; rw [HRN.out, if_neg (fun h => h hst)]
                  by_cases hsk : rr + 1 ≤ s.skip
                  · have hskI : ¬ (s.skip : Int) < (rr : Int) + 1 := by omega
                    have HF2 : Hid (rightF s (j + 1 + 1) = true) := by show _ = _; rw [HF.out, HRQ.out, decide_eq_true hsk]
                    go_upto_region 9 with fail
                    go_quiet (fail)
                    go_wp2
                    go_roundg (gk - 1)
                    case measure => omega
                    case rel => exact ⟨j + 1 + 1, by simp, by rw [HRQ.out]; simp, by omega, by omega, HF2.out, HR4.out.trans ⟨rfl, rfl, rfl, Nat.le_refl _, fun _ _ => rfl⟩⟩
                  · have hskI : (s.skip : Int) < (rr : Int) + 1 := by omega
                    have HN : Hid (rightF s s.kept.length = false) := right_no s (j + 1) (by rw [HF.out, HRQ.out, decide_eq_false hsk]) _ hlt
                    go_upto_region 9 with fail
                    go_quiet (fail)
                    go_wp2; go_ret
                    exact ⟨by rw [HN.out]; rfl, (HW.out.trans (HR4.out.mono HW.out.size)).trans ⟨rfl, rfl, rfl, Nat.le_refl _, fun _ _ => rfl⟩⟩
                · have hstI : ((pe.step : Int) == (en.step : Int)) = false := by rw [beq_eq_false_iff_ne]; omega
                  have hstP : ¬ (pe.step : Int) = (en.step : Int) := by omega
                  have HRQ : Hid (runN s (j + 1 + 1) = 1) := by show _ = _; rw [HRN.out, if_pos hst]
                  by_cases hsk : 1 ≤ s.skip
                  · have hskI : ¬ (s.skip : Int) < 1 := by omega
                    have HF2 : Hid (rightF s (j + 1 + 1) = true) := by show _ = _; rw [HF.out, HRQ.out, decide_eq_true hsk]
                    go_upto_region 9 with fail
                    go_quiet (fail)
                    go_wp2
                    go_roundg (gk - 1)
                    case measure => omega
                    case rel => exact ⟨j + 1 + 1, by simp, by rw [HRQ.out]; rfl, by omega, by omega, HF2.out, HR4.out.trans ⟨rfl, rfl, rfl, Nat.le_refl _, fun _ _ => rfl⟩⟩
                  · have hskI : (s.skip : Int) < 1 := by omega
                    have HN : Hid (rightF s s.kept.length = false) := right_no s (j + 1) (by rw [HF.out, HRQ.out, decide_eq_false hsk]) _ hlt
                    go_upto_region 9 with fail
                    go_quiet (fail)
                    go_wp2; go_ret
                    exact ⟨by rw [HN.out]; rfl, (HW.out.trans (HR4.out.mono HW.out.size)).trans ⟨rfl, rfl, rfl, Nat.le_refl _, fun _ _ => rfl⟩⟩
    · obtain rfl : i = s.kept.length := by omega
      have h12 := HS2.out.c12; go_wp2; go_ret
      exact ⟨by rw [HK.out]; rfl, HW.out.trans (HR.out.mono HW.out.size)⟩
end Go.Proofs.Ytabpkohcimiceab
