import Derived.Test.YtabpkohcimiceabGreatBoxA
namespace Go.Proofs.YtabpkohcimiceabGreat
set_option maxRecDepth 100000
set_option maxHeartbeats 1000000
open Go.RowKit
set_option linter.unusedVariables false
attribute [local go_sem ↓] Go.wp_at_zero Go.wp_at_succ
theorem entsL_length : ∀ (l : List EntM), (∀ e ∈ l, e.step ≤ 255 ∧ e.count ≤ 255 ∧ e.key.length = 8) → (entsL l).length = 10 * l.length
  | [], _ => rfl
  | e :: l, h => by
    have h1 := entsL_length l (fun x hx => h x (List.mem_cons_of_mem _ hx))
    have h2 := (h e List.mem_cons_self).2.2
    rw [entsL, List.length_append, h1, entL]; simp [h2]; omega
theorem bodyL_length {s : StM} (h : StOk s) : (bodyL s).length = 40 := by
  simp only [bodyL, List.length_append, h.root, h.out, h.inn, fourN_length]; rfl
theorem sideL_le {s : StM} (h : StOk s) : (sideL s).length ≤ 5000 := by
  have h1 := bodyL_length h; have h2 := entsL_length s.kept h.keys; have h3 := h.kept; have h4 := h.cap
  rw [sideL, fillL_length, List.length_append, h1, h2, halfN]; omega
theorem pack_any (s : StM) (v : Value) (live n : Nat) (w : World) (hs : StOk s) (hv : EntsAt w v s.kept) (hl : live ≤ 255) (hn : n ≤ 2000) :
    Calls Tryz.prog 98 #[.agg (stCells s v), .int .i64 live, .int .i64 n] w fun e w' => e = .returned (.string (str (packL s live n))) ∧ Below w.heap.size w w' := by
  have hcap := hs.cap
  have c1 := fun w => top_any s.cap live w (by omega) (by omega)
  have c2 := fun w => half_any s.cap w (by omega)
  have hhf : halfN s.cap ≤ 100 := by unfold halfN; omega
  have hsl := sideL_le hs; have hst := StAt.made w s v; have hbl : Below w.heap.size w (w.alloc (.cells (stCells s v) 63)) := (Below.refl _ _).alloc (Nat.le_refl _) _; have hv1 := hv.next hbl
  have HP : Hid (packL s live n = fillL ((if live = 1 then fillL (topL s.cap live) ((1 + halfN s.cap) * 32) else topL s.cap live) ++ sideL s) n) := rfl
  have ht := topL_length s.cap live
  go_enter Tryz.func98, Tryz.ntmps98
  go_upto_region 1 with fail
  generalize w.alloc (.cells (stCells s v) 63) = wb at hst hbl hv1 ⊢
  obtain ⟨B, hB⟩ : ∃ B, B = w.heap.size := ⟨_, rfl⟩
  rw [← hB] at hst ⊢
  have HW := hid hbl; have HS : Hid (StAt wb B s v) := hst; have HV := hid hv1; have h6 := hst.c6; clear hB hbl hv hv1 hst
  generalize halfN s.cap = hh at c2 hhf HP
  go_upto_region 2 with (go_at_call 122; refine (c1 _).mono ?_; rintro e w1 ⟨rfl, hb1⟩)
  have hst1 := HS.out.next hb1; have HV1 : Hid (EntsAt w1 v s.kept) := HV.out.next hb1; have HW1 : Hid (Below w.heap.size w w1) := HW.out.trans (hb1.mono HW.out.size)
  have c4 := fun w h => side_any s v w hs h
  obtain ⟨tp, htp⟩ : ∃ tp, tp = str (topL s.cap live) := ⟨_, rfl⟩
  have htz : tp.size = 32 := by rw [htp, str_size, ht]
  have HT : Hid (tp = str (topL s.cap live)) := htp
  have hsz : (str (sideL s)).size ≤ 5000 := by rw [str_size]; exact hsl
  obtain ⟨sd, hsd⟩ : ∃ sd, sd = str (sideL s) := ⟨_, rfl⟩
  have HD : Hid (sd = str (sideL s)) := hsd; rw [← htp]
  rw [← hsd] at hsz c4
  clear h6 hb1 HS HV HW htp hsd hs; have tok1 : True := trivial; obtain ⟨lt, h0, h1, h2, h3, h4, h5, h6, h7, h8, h9, h10, h11, h12⟩ := hst1
  by_cases hl1 : live = 1
  · subst hl1
    have c5 := fun w => filled_any tp ((1 + (hh : Int)) * 32) w (by omega) (by omega) (by omega)
    obtain ⟨t2, ht2⟩ : ∃ t2, t2 = str (fillL tp.data.toList ((1 + (hh : Int)) * 32).toNat) := ⟨_, rfl⟩
    have h2z : t2.size ≤ 10000 := by rw [ht2, str_size, fillL_length, len_list]; omega
    rw [← ht2] at c5
    have HT2 : Hid (t2 = str (fillL tp.data.toList ((1 + (hh : Int)) * 32).toNat)) := ht2; clear ht2
    have c6 := fun w => filled_any (t2 ++ sd) (n : Int) w (by omega) (by omega) (by rw [ByteArray.size_append]; omega)
    go_wp2_with (first | (go_at_call 95; refine (c2 _).mono ?_; rintro e w' ⟨rfl, hw⟩; rw [hw]; clear hw w') | (go_at_call 136; have _t := tok1; refine (c5 _).mono ?_; rintro e w' ⟨rfl, hw⟩; rw [hw]; clear hw w' tok1) | (go_at_call 125; refine (c4 _ HV1.out).mono ?_; rintro e w2 ⟨rfl, hb2⟩) | (go_at_call 136; refine (c6 _).mono ?_; rintro e w' ⟨rfl, hw⟩; rw [hw]; clear hw w'))
    go_ret
    refine ⟨?_, HW1.out.trans (hb2.mono HW1.out.size)⟩
    show Ending.returned (Value.string (str (fillL (t2 ++ sd).data.toList ((n : Int)).toNat))) = _
    have e : (t2 ++ sd).data.toList = fillL (topL s.cap 1) ((1 + hh) * 32) ++ sideL s := by
      rw [HT2.out, HD.out, str_append, str_toList, HT.out, str_toList, show ((1 + (hh : Int)) * 32).toNat = (1 + hh) * 32 by omega]
    rw [e, HP.out, if_pos trivial, Int.toNat_natCast]
  · have hl1' : ¬ (live : Int) = 1 := by omega
    have c6 := fun w => filled_any (tp ++ sd) (n : Int) w (by omega) (by omega) (by rw [ByteArray.size_append]; omega)
    go_wp2_with (first | (go_at_call 125; refine (c4 _ HV1.out).mono ?_; rintro e w2 ⟨rfl, hb2⟩) | (go_at_call 136; refine (c6 _).mono ?_; rintro e w' ⟨rfl, hw⟩; rw [hw]; clear hw w'))
    go_ret
    refine ⟨?_, HW1.out.trans (hb2.mono HW1.out.size)⟩
    show Ending.returned (Value.string (str (fillL (tp ++ sd).data.toList ((n : Int)).toNat))) = _
    have e : (tp ++ sd).data.toList = topL s.cap live ++ sideL s := by
      rw [HD.out, HT.out, str_append, str_toList]
    rw [e, HP.out, if_neg hl1, Int.toNat_natCast]
end Go.Proofs.YtabpkohcimiceabGreat
namespace Go.Proofs.YtabpkohcimiceabGreat
set_option maxRecDepth 100000
set_option maxHeartbeats 1000000
open Go.RowKit
set_option linter.unusedVariables false
theorem refIsSecret_any (x : Int) (w : World) : Calls Tryz.prog 87 #[.int .i64 x] w fun e w' => e = .returned (.bool (decide (Sec x))) ∧ w' = w := by
  by_cases h1 : 1 ≤ x
  · by_cases h2 : x < 2147483646
    · rw [decide_eq_true (show Sec x from ⟨h1, by omega⟩)]
      go_enter Tryz.func87, Tryz.ntmps87
      go_wp2; go_ret; exact ⟨rfl, rfl⟩
    · rw [decide_eq_false (fun h : Sec x => h2 (by have := h.2; omega))]
      go_enter Tryz.func87, Tryz.ntmps87
      go_wp2; go_ret; exact ⟨rfl, rfl⟩
  · rw [decide_eq_false (fun h : Sec x => h1 h.1)]
    go_enter Tryz.func87, Tryz.ntmps87
    go_wp2; go_ret; exact ⟨rfl, rfl⟩
theorem refIsPublic_any (x : Int) (w : World) : Calls Tryz.prog 88 #[.int .i64 x] w fun e w' => e = .returned (.bool (decide (Pub x))) ∧ w' = w := by
  by_cases h1 : 1 ≤ x
  · by_cases h2 : x < 2147483647
    · rw [decide_eq_true (show Pub x from ⟨h1, by omega⟩)]
      go_enter Tryz.func88, Tryz.ntmps88
      go_wp2; go_ret; exact ⟨rfl, rfl⟩
    · rw [decide_eq_false (fun h : Pub x => h2 (by have := h.2; omega))]
      go_enter Tryz.func88, Tryz.ntmps88
      go_wp2; go_ret; exact ⟨rfl, rfl⟩
  · rw [decide_eq_false (fun h : Pub x => h1 h.1)]
    go_enter Tryz.func88, Tryz.ntmps88
    go_wp2; go_ret; exact ⟨rfl, rfl⟩
theorem lawA_no (s : StM) (h : ¬ (s.role ≤ 1 ∧ s.step ≤ 30 ∧ (s.step + s.role) % 2 ≠ 0 ∧ s.skip ≤ 12 ∧ s.cap ≤ 30)) : lawfulL s = false := by
  rw [lawfulL, lawA, decide_eq_false h]; simp
theorem lawB_no (s : StM) (h : ¬ (s.sent ≤ 50 ∧ s.got ≤ 50 ∧ s.prev ≤ 50)) : lawfulL s = false := by
  rw [lawfulL, lawB, decide_eq_false h]; simp
theorem lawC_no (s : StM) (h : ¬ (Sec s.secret ∧ (0 < s.step → Pub s.peer))) : lawfulL s = false := by
  rw [lawfulL, lawC, decide_eq_false h]; simp
theorem lawD_no (s : StM) (h : ¬ (s.step = 0 → s.sent = 0 ∧ s.peer = 0 ∧ s.out = noneL)) : lawfulL s = false := by
  rw [lawfulL, lawD, decide_eq_false h]; simp
theorem lawE_no (s : StM) (h : ¬ (s.step ≤ 1 → s.got = 0 ∧ s.inn = noneL)) : lawfulL s = false := by
  rw [lawfulL, lawE, decide_eq_false h]; simp
theorem lawF_no (s : StM) (h : ¬ (s.step ≤ 2 → s.prev = 0)) : lawfulL s = false := by
  rw [lawfulL, lawF, decide_eq_false h]; simp
theorem law_no (s : StM) (h : ¬ ((s.step = 0 → s.sent = 0 ∧ s.peer = 0 ∧ s.out = noneL) ∧ (s.step ≤ 1 → s.got = 0 ∧ s.inn = noneL) ∧ (s.step ≤ 2 → s.prev = 0))) : lawfulL s = false := by
  by_cases h1 : s.step = 0 → s.sent = 0 ∧ s.peer = 0 ∧ s.out = noneL
  · by_cases h2 : s.step ≤ 1 → s.got = 0 ∧ s.inn = noneL
    · exact lawF_no s fun h3 => h ⟨h1, h2, h3⟩
    · exact lawE_no s h2
  · exact lawD_no s h1
theorem law_yes (s : StM) (hA : lawA s = true) (hB : lawB s = true) (hC : lawC s = true) (h : (s.step = 0 → s.sent = 0 ∧ s.peer = 0 ∧ s.out = noneL) ∧ (s.step ≤ 1 → s.got = 0 ∧ s.inn = noneL) ∧ (s.step ≤ 2 → s.prev = 0)) : lawfulL s = keysL s := by
  rw [lawfulL, hA, hB, hC, lawD, lawE, lawF, decide_eq_true h.1, decide_eq_true h.2.1, decide_eq_true h.2.2]; simp
theorem none_test (l : List UInt8) : ((str l).toList == [0, 0, 0, 0, 0, 0, 0, 0]) = decide (l = noneL) := by
  rw [Bool.eq_iff_iff, beq_iff_eq, decide_eq_true_eq, ByteArray.toList_eq, str_toList]; rfl
theorem lawful_any (s : StM) (v : Value) (w : World) (hs : StOk s) (hv : EntsAt w v s.kept)
    (hkeys : ∀ w, EntsAt w v s.kept → Calls Tryz.prog 147 #[.agg (stCells s v)] w fun e w' => e = .returned (.bool (keysL s)) ∧ Below w.heap.size w w') :
    Calls Tryz.prog 124 #[.agg (stCells s v)] w fun e w' => e = .returned (.bool (lawfulL s)) ∧ Below w.heap.size w w' := by
  obtain ⟨o0, o1, o2, o3, o4, o5, o6, o7, o8, o9, o10, o11, o12, o13⟩ := hs; have hst := StAt.made w s v; have hbl : Below w.heap.size w (w.alloc (.cells (stCells s v) 63)) := (Below.refl _ _).alloc (Nat.le_refl _) _
  go_enter Tryz.func124, Tryz.ntmps124
  go_upto_region 1 with fail
  generalize w.alloc (.cells (stCells s v) 63) = wb at hst hbl ⊢
  obtain ⟨B, hB⟩ : ∃ B, B = w.heap.size := ⟨_, rfl⟩
  rw [← hB] at hst ⊢
  have HW := hid hbl; have HV : Hid (EntsAt wb v s.kept) := hv.next hbl
  have HK : Hid (Calls Tryz.prog 147 #[.agg (stCells s v)] wb fun e w' => e = .returned (.bool (keysL s)) ∧ Below wb.heap.size wb w') := hkeys _ HV.out
  obtain ⟨lt, h0, h1, h2, h3, h4, h5, h6, h7, h8, h9, h10, h11, h12⟩ := hst; clear hB hbl hv o13 hkeys o0 o1 o2 o3 o4 o5 o6 o7 o8 o9 o10 o11 o12
  go_upto_region 3 with fail
  all_goals try (go_ret; exact ⟨by rw [lawA_no s (by first | omega | (intro hh; simp only [beq_iff_eq] at *; omega))]; rfl, HW.out⟩)
  have HA : Hid (lawA s = true) := decide_eq_true (by first | omega | (simp only [beq_eq_false_iff_ne] at *; omega))
  go_upto_region 5 with fail
  all_goals try (go_ret; exact ⟨by rw [lawB_no s (by omega)]; rfl, HW.out⟩)
  have HB : Hid (lawB s = true) := decide_eq_true (by omega)
  have cs := fun w => refIsSecret_any (s.secret : Int) w
  have cp := fun w => refIsPublic_any (s.peer : Int) w
  have hO := none_test s.out; have hI := none_test s.inn
  cases hsec : decide (Sec (s.secret : Int)) with
  | false =>
    rw [hsec] at cs
    have HN : Hid (lawfulL s = false) := lawC_no s (fun h => (of_decide_eq_false hsec) h.1)
    clear hsec cp
    go_wp2_with (first | (go_at_call 87; refine (cs _).mono ?_; rintro e w' ⟨rfl, hw⟩; rw [hw]; clear hw w') | go_in)
    all_goals (go_ret; exact ⟨by rw [HN.out]; rfl, HW.out⟩)
  | true =>
    rw [hsec] at cs
    have hSec : Sec (s.secret : Int) := of_decide_eq_true hsec; have HSec : Hid (Sec (s.secret : Int)) := hSec; clear hSec hsec
    cases hpub : decide (Pub (s.peer : Int)) with
    | false =>
      rw [hpub] at cp
      have hPub : ¬ Pub (s.peer : Int) := of_decide_eq_false hpub; have HPub : Hid (¬ Pub (s.peer : Int)) := hPub; clear hPub hpub
      by_cases p0 : 0 < s.step
      · have HN : Hid (lawfulL s = false) := lawC_no s (fun h => HPub.out (h.2 p0))
        have p0I : (0 : Int) < (s.step : Int) := by omega
        go_wp2_with (first | (go_at_call 87; refine (cs _).mono ?_; rintro e w' ⟨rfl, hw⟩; rw [hw]; clear hw w') | (go_at_call 88; refine (cp _).mono ?_; rintro e w' ⟨rfl, hw⟩; rw [hw]; clear hw w'))
        go_ret
        exact ⟨by rw [HN.out]; rfl, HW.out⟩
      · have p0' : s.step = 0 := by omega
        have p0I : (s.step : Int) = 0 := by omega
        have HC : Hid (lawC s = true) := decide_eq_true ⟨HSec.out, fun h => absurd h p0⟩
        go_upto_region 15 with (first | (go_at_call 87; refine (cs _).mono ?_; rintro e w' ⟨rfl, hw⟩; rw [hw]; clear hw w') | (go_at_call 88; refine (cp _).mono ?_; rintro e w' ⟨rfl, hw⟩; rw [hw]; clear hw w'))
        all_goals try (go_ret; exact ⟨by rw [law_no s (by intro hh; simp_all)]; rfl, HW.out⟩)
        have HY : Hid (lawfulL s = keysL s) := law_yes s HA.out HB.out HC.out (by first | (simp_all; done) | (refine ⟨fun h => absurd h (by omega), fun h => absurd h (by omega), fun h => absurd h (by omega)⟩))
        have hk := HK.out
        simp [stCells, *] at hk
        go_wp2_with (go_at_call 147; refine hk.mono ?_; rintro e w1 ⟨rfl, hb1⟩)
        go_ret
        exact ⟨by rw [HY.out]; rfl, HW.out.trans (hb1.mono HW.out.size)⟩
    | true =>
      rw [hpub] at cp
      have hPub : Pub (s.peer : Int) := of_decide_eq_true hpub
      have HC : Hid (lawC s = true) := decide_eq_true ⟨HSec.out, fun _ => hPub⟩
      clear hPub hpub
      by_cases p0 : s.step = 0
      · have p0I : (s.step : Int) = 0 := by omega
        go_upto_region 15 with (first | (go_at_call 87; refine (cs _).mono ?_; rintro e w' ⟨rfl, hw⟩; rw [hw]; clear hw w') | (go_at_call 88; refine (cp _).mono ?_; rintro e w' ⟨rfl, hw⟩; rw [hw]; clear hw w'))
        all_goals try (go_ret; exact ⟨by rw [law_no s (by intro hh; simp_all)]; rfl, HW.out⟩)
        have HY : Hid (lawfulL s = keysL s) := law_yes s HA.out HB.out HC.out (by first | (simp_all; done) | (refine ⟨fun h => absurd h (by omega), fun h => absurd h (by omega), fun h => absurd h (by omega)⟩))
        have hk := HK.out
        simp [stCells, *] at hk
        go_wp2_with (go_at_call 147; refine hk.mono ?_; rintro e w1 ⟨rfl, hb1⟩)
        go_ret
        exact ⟨by rw [HY.out]; rfl, HW.out.trans (hb1.mono HW.out.size)⟩
      by_cases p1 : s.step = 1
      · have p1I : (s.step : Int) = 1 := by omega
        clear p0
        go_upto_region 15 with (first | (go_at_call 87; refine (cs _).mono ?_; rintro e w' ⟨rfl, hw⟩; rw [hw]; clear hw w') | (go_at_call 88; refine (cp _).mono ?_; rintro e w' ⟨rfl, hw⟩; rw [hw]; clear hw w'))
        all_goals try (go_ret; exact ⟨by rw [law_no s (by intro hh; simp_all)]; rfl, HW.out⟩)
        have HY : Hid (lawfulL s = keysL s) := law_yes s HA.out HB.out HC.out (by first | (simp_all; done) | (refine ⟨fun h => absurd h (by omega), fun h => absurd h (by omega), fun h => absurd h (by omega)⟩))
        have hk := HK.out
        simp [stCells, *] at hk
        go_wp2_with (go_at_call 147; refine hk.mono ?_; rintro e w1 ⟨rfl, hb1⟩)
        go_ret
        exact ⟨by rw [HY.out]; rfl, HW.out.trans (hb1.mono HW.out.size)⟩
      by_cases p2 : s.step = 2
      · have p2I : (s.step : Int) = 2 := by omega
        clear p0 p1
        go_upto_region 15 with (first | (go_at_call 87; refine (cs _).mono ?_; rintro e w' ⟨rfl, hw⟩; rw [hw]; clear hw w') | (go_at_call 88; refine (cp _).mono ?_; rintro e w' ⟨rfl, hw⟩; rw [hw]; clear hw w'))
        all_goals try (go_ret; exact ⟨by rw [law_no s (by intro hh; simp_all)]; rfl, HW.out⟩)
        have HY : Hid (lawfulL s = keysL s) := law_yes s HA.out HB.out HC.out (by first | (simp_all; done) | (refine ⟨fun h => absurd h (by omega), fun h => absurd h (by omega), fun h => absurd h (by omega)⟩))
        have hk := HK.out
        simp [stCells, *] at hk
        go_wp2_with (go_at_call 147; refine hk.mono ?_; rintro e w1 ⟨rfl, hb1⟩)
        go_ret
        exact ⟨by rw [HY.out]; rfl, HW.out.trans (hb1.mono HW.out.size)⟩
      have p3 : 2 < s.step := by omega
      have p3I : (2 : Int) < (s.step : Int) := by omega
      have p3a : ((s.step : Int) == 0) = false := by rw [beq_eq_false_iff_ne]; omega
      have p3b : decide ((s.step : Int) ≤ 1) = false := decide_eq_false (by omega)
      have p3c : decide ((s.step : Int) ≤ 2) = false := decide_eq_false (by omega)
      have p3d : decide ((0 : Int) < (s.step : Int)) = true := decide_eq_true (by omega)
      go_upto_region 15 with (first | (go_at_call 87; refine (cs _).mono ?_; rintro e w' ⟨rfl, hw⟩; rw [hw]; clear hw w') | (go_at_call 88; refine (cp _).mono ?_; rintro e w' ⟨rfl, hw⟩; rw [hw]; clear hw w'))
      all_goals try (go_ret; exact ⟨by rw [law_no s (by intro hh; simp_all)]; rfl, HW.out⟩)
      have HY : Hid (lawfulL s = keysL s) := law_yes s HA.out HB.out HC.out (by first | (simp_all; done) | (refine ⟨fun h => absurd h (by omega), fun h => absurd h (by omega), fun h => absurd h (by omega)⟩))
      have hk := HK.out
      simp [stCells, *] at hk
      go_wp2_with (go_at_call 147; refine hk.mono ?_; rintro e w1 ⟨rfl, hb1⟩)
      go_ret
      exact ⟨by rw [HY.out]; rfl, HW.out.trans (hb1.mono HW.out.size)⟩
end Go.Proofs.YtabpkohcimiceabGreat
namespace Go.Proofs.YtabpkohcimiceabGreat
set_option maxRecDepth 100000
set_option maxHeartbeats 1000000
open Go.RowKit
set_option linter.unusedVariables false
def chainL (root : List UInt8) (d : Nat) : List UInt8 := mixed root (99 :: fourN d)
def rootL (root : List UInt8) (d : Nat) : List UInt8 := mixed root (114 :: fourN d)
theorem one_front (c : UInt8) (l : List UInt8) : ((⟨#[c]⟩ : ByteArray) ++ str l).data.toList = c :: l := by
  rw [ByteArray.data_append]; simp [str]
theorem one_front_size (c : UInt8) (l : List UInt8) : ((⟨#[c]⟩ : ByteArray) ++ str l).size = 1 + l.length := by
  rw [← len_list, one_front]; simp; omega
theorem chains_any (r : ByteArray) (d : Nat) (w : World) (hr : r.size = 8) (hd : d < 4294967296) :
    Calls Tryz.prog 97 #[.string r, .int .i64 d] w fun e w' => e = .returned (.tuple #[.string (str (chainL r.data.toList d)), .string (str (rootL r.data.toList d))]) ∧ Below w.heap.size w w' := by
  have z4 : (str (fourN d)).size = 4 := rfl
  have c1 := fun w => mixed_any r ((⟨#[99]⟩ : ByteArray) ++ str (fourN d)) w hr (by rw [one_front_size, fourN_length]; omega)
  have c2 := fun w => mixed_any r ((⟨#[114]⟩ : ByteArray) ++ str (fourN d)) w hr (by rw [one_front_size, fourN_length]; omega)
  rw [one_front] at c1 c2
  have tok1 : True := trivial
  go_enter Tryz.func97, Tryz.ntmps97
  go_wp2_with (first | (go_at_call 108; refine (four_nat d _ hd).mono ?_; rintro e w1 ⟨rfl, x1, x2, x3, x4, rfl⟩) | (go_at_call 84; have _t := tok1; refine (c1 _).mono ?_; rintro e w2 ⟨rfl, hb1⟩; clear tok1) | (go_at_call 84; refine (c2 _).mono ?_; rintro e w3 ⟨rfl, hb2⟩))
  go_ret2
  refine ⟨rfl, ?_⟩
  refine below_tr (below_tr ?_ hb1) (below_tr ?_ hb2)
  all_goals repeat (first | exact Below.refl _ _ | (refine Below.alloc ?_ (by first | exact Nat.le_refl _ | (simp; done) | (simp; omega)) _))
def Allow (role skip cap peer draw : Int) : Prop := Sec draw ∧ (0 ≤ skip ∧ skip ≤ 12 ∧ 0 ≤ cap ∧ cap ≤ 30) ∧ ((role = 0 ∧ Pub peer) ∨ (role = 1 ∧ peer = 0))
instance (role skip cap peer draw : Int) : Decidable (Allow role skip cap peer draw) := inferInstanceAs (Decidable (_ ∧ _))
theorem allowed_any (role skip cap peer draw : Int) (w : World) :
    Calls Tryz.prog 96 #[.int .i64 role, .int .i64 skip, .int .i64 cap, .int .i64 peer, .int .i64 draw] w fun e w' => e = .returned (.bool (decide (Allow role skip cap peer draw))) ∧ w' = w := by
  have cs := fun w => refIsSecret_any draw w
  have cp := fun w => refIsPublic_any peer w
  by_cases hA : Sec draw ∧ (0 ≤ skip ∧ skip ≤ 12 ∧ 0 ≤ cap ∧ cap ≤ 30)
  · obtain ⟨a1, a2, a3, a4, a5⟩ := hA
    rw [decide_eq_true a1] at cs
    have HE : Hid (∀ b : Bool, (b = true ↔ (role = 0 ∧ Pub peer) ∨ (role = 1 ∧ peer = 0)) → decide (Allow role skip cap peer draw) = b) := by
      intro b hb
      rw [Bool.eq_iff_iff, decide_eq_true_eq, hb]
      exact ⟨fun h => h.2.2, fun h => ⟨a1, ⟨a2, a3, a4, a5⟩, h⟩⟩
    have a2' : ¬ skip < 0 := by omega
    have a3' : ¬ 12 < skip := by omega
    have a4' : ¬ cap < 0 := by omega
    have a5' : ¬ 30 < cap := by omega
    clear a1
    by_cases r0 : role = 0
    · subst r0
      by_cases p : Pub peer
      · rw [decide_eq_true p] at cp
        have e1 : Hid (decide (Allow 0 skip cap peer draw) = true) := HE.out true (by simp [p])
        clear p
        go_enter Tryz.func96, Tryz.ntmps96
        go_wp2_with (first | (go_at_call 87; refine (cs _).mono ?_; rintro e w' ⟨rfl, hw⟩; rw [hw]; clear hw w') | (go_at_call 88; refine (cp _).mono ?_; rintro e w' ⟨rfl, hw⟩; rw [hw]; clear hw w'))
        go_ret
        exact ⟨by rw [e1.out]; rfl, rfl⟩
      · rw [decide_eq_false p] at cp
        have e1 : Hid (decide (Allow 0 skip cap peer draw) = false) := HE.out false (by simp [p])
        clear p
        go_enter Tryz.func96, Tryz.ntmps96
        go_wp2_with (first | (go_at_call 87; refine (cs _).mono ?_; rintro e w' ⟨rfl, hw⟩; rw [hw]; clear hw w') | (go_at_call 88; refine (cp _).mono ?_; rintro e w' ⟨rfl, hw⟩; rw [hw]; clear hw w'))
        go_ret
        exact ⟨by rw [e1.out]; rfl, rfl⟩
    · by_cases r1 : role = 1
      · subst r1
        by_cases p : peer = 0
        · subst p
          have e1 : Hid (decide (Allow 1 skip cap 0 draw) = true) := HE.out true (by simp)
          generalize decide (Pub 0) = bp at cp
          go_enter Tryz.func96, Tryz.ntmps96
          go_wp2_with (first | (go_at_call 87; refine (cs _).mono ?_; rintro e w' ⟨rfl, hw⟩; rw [hw]; clear hw w') | (go_at_call 88; refine (cp _).mono ?_; rintro e w' ⟨rfl, hw⟩; rw [hw]; clear hw w'))
          go_ret
          exact ⟨by rw [e1.out]; rfl, rfl⟩
        · have e1 : Hid (decide (Allow 1 skip cap peer draw) = false) := HE.out false (by simp [p])
          have p' : (peer == 0) = false := by rw [beq_eq_false_iff_ne]; exact p
          generalize decide (Pub peer) = bp at cp
          go_enter Tryz.func96, Tryz.ntmps96
          go_wp2_with (first | (go_at_call 87; refine (cs _).mono ?_; rintro e w' ⟨rfl, hw⟩; rw [hw]; clear hw w') | (go_at_call 88; refine (cp _).mono ?_; rintro e w' ⟨rfl, hw⟩; rw [hw]; clear hw w'))
          go_ret
          exact ⟨by rw [e1.out]; rfl, rfl⟩
      · have e1 : Hid (decide (Allow role skip cap peer draw) = false) := HE.out false (by simp [r0, r1])
        generalize decide (Pub peer) = bp at cp
        go_enter Tryz.func96, Tryz.ntmps96
        go_wp2_with (first | (go_at_call 87; refine (cs _).mono ?_; rintro e w' ⟨rfl, hw⟩; rw [hw]; clear hw w') | (go_at_call 88; refine (cp _).mono ?_; rintro e w' ⟨rfl, hw⟩; rw [hw]; clear hw w'))
        go_ret
        exact ⟨by rw [e1.out]; rfl, rfl⟩
  · have e1 : Hid (decide (Allow role skip cap peer draw) = false) := by
      show _ = _
      exact decide_eq_false (fun h => hA ⟨h.1, h.2.1⟩)
    generalize decide (Pub peer) = bp at cp
    by_cases q : Sec draw
    · rw [decide_eq_true q] at cs
      have hB : ¬ (0 ≤ skip ∧ skip ≤ 12 ∧ 0 ≤ cap ∧ cap ≤ 30) := fun h => hA ⟨q, h⟩
      clear hA q
      by_cases s1 : skip < 0
      · go_enter Tryz.func96, Tryz.ntmps96
        go_wp2_with (first | (go_at_call 87; refine (cs _).mono ?_; rintro e w' ⟨rfl, hw⟩; rw [hw]; clear hw w') | (go_at_call 88; refine (cp _).mono ?_; rintro e w' ⟨rfl, hw⟩; rw [hw]; clear hw w'))
        go_ret
        exact ⟨by rw [e1.out]; rfl, rfl⟩
      by_cases s2 : 12 < skip
      · clear hB
        go_enter Tryz.func96, Tryz.ntmps96
        go_wp2_with (first | (go_at_call 87; refine (cs _).mono ?_; rintro e w' ⟨rfl, hw⟩; rw [hw]; clear hw w') | (go_at_call 88; refine (cp _).mono ?_; rintro e w' ⟨rfl, hw⟩; rw [hw]; clear hw w'))
        go_ret
        exact ⟨by rw [e1.out]; rfl, rfl⟩
      by_cases s3 : cap < 0
      · clear hB
        go_enter Tryz.func96, Tryz.ntmps96
        go_wp2_with (first | (go_at_call 87; refine (cs _).mono ?_; rintro e w' ⟨rfl, hw⟩; rw [hw]; clear hw w') | (go_at_call 88; refine (cp _).mono ?_; rintro e w' ⟨rfl, hw⟩; rw [hw]; clear hw w'))
        go_ret
        exact ⟨by rw [e1.out]; rfl, rfl⟩
      have s4 : 30 < cap := by omega
      clear hB
      go_enter Tryz.func96, Tryz.ntmps96
      go_wp2_with (first | (go_at_call 87; refine (cs _).mono ?_; rintro e w' ⟨rfl, hw⟩; rw [hw]; clear hw w') | (go_at_call 88; refine (cp _).mono ?_; rintro e w' ⟨rfl, hw⟩; rw [hw]; clear hw w'))
      go_ret
      exact ⟨by rw [e1.out]; rfl, rfl⟩
    · rw [decide_eq_false q] at cs
      clear hA q
      go_enter Tryz.func96, Tryz.ntmps96
      go_wp2_with (first | (go_at_call 87; refine (cs _).mono ?_; rintro e w' ⟨rfl, hw⟩; rw [hw]; clear hw w') | (go_at_call 88; refine (cp _).mono ?_; rintro e w' ⟨rfl, hw⟩; rw [hw]; clear hw w'))
      go_ret
      exact ⟨by rw [e1.out]; rfl, rfl⟩
end Go.Proofs.YtabpkohcimiceabGreat
