import Derived.Test.YtabpkohcimiceabNew
namespace Go.Proofs.Ytabpkohcimiceab
set_option maxRecDepth 100000
set_option maxHeartbeats 1000000
open Go.RowKit
set_option linter.unusedVariables false
theorem disk_factsD {d : ByteArray} (h : isDiskL d.data.toList = true) : ∃ k, d.size = k * 32 ∧ 1 ≤ k ∧ k ≤ 40 := by
  rw [isDiskL, decide_eq_true_eq, len_list] at h
  exact ⟨d.size / 32, by omega, by omega, by omega⟩
theorem below_drewN (B : Nat) (w : World) (n : Nat) : Below B w (w.drewN n) := ⟨rfl, rfl, rfl, Nat.le_refl _, fun _ _ => rfl⟩
set_option maxHeartbeats 2000000 in
theorem pawlCreate_any (d : ByteArray) (role skip cap peer : Int) (sec : ByteArray) (draw : Int) (w : World) (hd : d.size ≤ maxLen) (hsec : sec.size ≤ maxLen) :
    Calls Try.prog 51 #[.string d, .agg (cfgCells role skip cap peer), .string sec, .int .i64 draw] w fun e w' => e = .returned (.tuple #[.string (str (crePlan d.data.toList role skip cap peer sec.data.toList draw)), .int .i64 (creErr d.data.toList role skip cap peer sec.data.toList draw)]) ∧ Below w.heap.size w w' := by
  have c1 := fun w => devDisk_any d w hd
  have c2 := fun w => isConfig_any role skip cap peer w
  have c3 := fun w => devIsSecret_any draw w
  unfold cfgCells at c2 ⊢
  cases hD : isDiskL d.data.toList with
  | false =>
    have e1 : creErr d.data.toList role skip cap peer sec.data.toList draw = 6 := by rw [creErr, if_neg (by rw [hD]; simp)]
    rw [crePlan, e1, if_neg (by omega)]
    rw [hD] at c1
    clear e1 c2 c3
    go_enter Try.func51, Try.ntmps51
    go_wp2_with (first | (go_at_call 53; refine (c1 _).mono ?_; rintro e w' ⟨rfl, hw⟩; rw [hw]; clear hw w'))
    go_ret2; exact ⟨rfl, (Below.refl _ _).alloc (Nat.le_refl _) _⟩
  | true =>
    obtain ⟨k, hk1, hk2, hk3⟩ := disk_factsD hD; have hdl := len_list d
    rw [hD] at c1
    by_cases hA : Allow role skip cap peer draw
    · obtain ⟨hcf, hse⟩ := (cfg_allow role skip cap peer draw).2 hA
      rw [decide_eq_true hcf] at c2
      rw [decide_eq_true hse] at c3
      by_cases h8 : sec.size = 8
      · have h8I : (sec.size : Int) = 8 := by omega
        have c4 := fun w => sectors_any d k w hd hk1
        obtain ⟨⟨r0, r1⟩, ⟨s0, s1⟩, ⟨a0, a1⟩, p1, p2⟩ := hcf; obtain ⟨cp, rfl⟩ := Int.eq_ofNat_of_zero_le a0
        have c5 := fun w => boxNeed_any cp w (by omega)
        have hh := (show halfN cp ≤ 11 by unfold halfN; omega)
        have e2 : creErr d.data.toList role skip (cp : Int) peer sec.data.toList draw = if d.data.toList.length < (1 + 2 * halfN cp) * 32 then 8 else if d.data.toList = List.replicate d.data.toList.length 0 then 0 else 9 := by
          rw [creErr, if_pos hD, if_pos hA, if_pos (by rw [len_list]; exact h8), Int.toNat_natCast]
        by_cases hsm : k < 1 + 2 * halfN cp
        · have e1 : creErr d.data.toList role skip (cp : Int) peer sec.data.toList draw = 8 := by rw [e2, if_pos (by rw [hdl]; omega)]
          rw [crePlan, e1, if_neg (by omega)]
          have hsI : (k : Int) < ((1 + 2 * halfN cp : Nat) : Int) := by omega
          generalize 1 + 2 * halfN cp = nn at *
          clear e1 e2 p1 p2 hA hD hse
          go_enter Try.func51, Try.ntmps51
          go_upto_region 7 with (first | (go_at_call 53; refine (c1 _).mono ?_; rintro e w' ⟨rfl, hw⟩; rw [hw]; clear hw w') | (go_at_call 72; refine (c2 _).mono ?_; rintro e w1 ⟨rfl, hb1⟩; have k0 := hb1.cell (p := ⟨w.heap.size, 0, none⟩) (by simp); have k1 := hb1.cell (p := ⟨w.heap.size, 1, none⟩) (by simp); have k2 := hb1.cell (p := ⟨w.heap.size, 2, none⟩) (by simp); have k3 := hb1.cell (p := ⟨w.heap.size, 3, none⟩) (by simp); simp [go_sem] at k0 k1 k2 k3; have HB1 : Hid (Below w.heap.size w w1) := ((Below.refl _ _).alloc (Nat.le_refl _) _).trans (hb1.mono (by simp)); clear hb1) | (go_at_call 42; refine (c3 _).mono ?_; rintro e w' ⟨rfl, hw⟩; rw [hw]; clear hw w'))
          go_quiet (first | (go_at_call 59; exact Calls.quiet_of_same (c4 _)) | (go_at_call 73; exact Calls.quiet_of_same (c5 _)))
          go_wp2; go_ret2
          refine ⟨rfl, ?_⟩
          exact HB1.out.trans (below_drewN _ _ _)
        · have hsI : ¬ (k : Int) < ((1 + 2 * halfN cp : Nat) : Int) := by omega
          have c6 := fun w => isNoughts_any d w hd
          by_cases hz : d.data.toList = List.replicate d.size 0
          · have e1 : creErr d.data.toList role skip (cp : Int) peer sec.data.toList draw = 0 := by rw [e2, if_neg (by rw [hdl]; omega), if_pos (by rw [hdl]; exact hz)]
            rw [decide_eq_true hz] at c6
            obtain ⟨ro, rfl⟩ := Int.eq_ofNat_of_zero_le r0; obtain ⟨sk, rfl⟩ := Int.eq_ofNat_of_zero_le s0
            obtain ⟨dr, rfl⟩ := Int.eq_ofNat_of_zero_le (show 0 ≤ draw by have := hse.1; omega)
            obtain ⟨pe, rfl⟩ : ∃ pe : Nat, peer = (pe : Int) := by
              by_cases h : (ro : Int) = 1
              · exact ⟨0, p1 h⟩
              · exact Int.eq_ofNat_of_zero_le (by have := (p2 h).1; omega)
            have hpe : pe < 4294967296 := by
              by_cases h : (ro : Int) = 1
              · have := p1 h; omega
              · have := (p2 h).2; omega
            have hdr : dr < 4294967296 := by have := hse.2; omega
            have hok := newS_ok ro sk cp pe dr sec.data.toList (by omega) (by omega) (by rw [len_list]; exact h8) hdr hpe
            have hcap := newS_cap ro sk cp pe dr sec.data.toList; have hkept := newS_kept ro sk cp pe dr sec.data.toList
            have c7 := fun w => new_any ro sk cp pe dr sec w (by omega) h8 hse (fun h => p2 (by omega))
            have c8 := fun w => storeCreate_any d (newS ro sk cp pe sec.data.toList dr) (.slice none 0 0) k w hk1 hok (by rw [hkept]; exact Nat.zero_le _) (by rw [hcap]; omega) (.inl ⟨rfl, hkept⟩) hk3 (by rw [hcap]; omega)
            have e3 : crePlan d.data.toList (ro : Int) (sk : Int) (cp : Int) (pe : Int) sec.data.toList (dr : Int) = changesL d.data.toList (packL (newS ro sk cp pe sec.data.toList dr) 0 (k * 32)) 1 k ++ changesL d.data.toList (packL (newS ro sk cp pe sec.data.toList dr) 0 (k * 32)) 0 1 := by
              rw [crePlan, if_pos e1, creTo, if_pos e1, hdl, hk1, show k * 32 / 32 = k by omega]
              simp only [Int.toNat_natCast]
            rw [e3, e1]
            generalize str (changesL d.data.toList (packL (newS ro sk cp pe sec.data.toList dr) 0 (k * 32)) 1 k ++ changesL d.data.toList (packL (newS ro sk cp pe sec.data.toList dr) 0 (k * 32)) 0 1) = pp at *
            unfold cfgCells at c7
            generalize newS ro sk cp pe sec.data.toList dr = ss at *
            generalize 1 + 2 * halfN cp = nn at *
            clear e1 e2 e3 p1 p2 hA hD hse hz hok hcap hkept
            go_enter Try.func51, Try.ntmps51
            go_upto_region 7 with (first | (go_at_call 53; refine (c1 _).mono ?_; rintro e w' ⟨rfl, hw⟩; rw [hw]; clear hw w') | (go_at_call 72; refine (c2 _).mono ?_; rintro e w1 ⟨rfl, hb1⟩; have k0 := hb1.cell (p := ⟨w.heap.size, 0, none⟩) (by simp); have k1 := hb1.cell (p := ⟨w.heap.size, 1, none⟩) (by simp); have k2 := hb1.cell (p := ⟨w.heap.size, 2, none⟩) (by simp); have k3 := hb1.cell (p := ⟨w.heap.size, 3, none⟩) (by simp); simp [go_sem] at k0 k1 k2 k3; have HB1 : Hid (Below w.heap.size w w1) := ((Below.refl _ _).alloc (Nat.le_refl _) _).trans (hb1.mono (by simp)); clear hb1) | (go_at_call 42; refine (c3 _).mono ?_; rintro e w' ⟨rfl, hw⟩; rw [hw]; clear hw w'))
            go_quiet (first | (go_at_call 59; exact Calls.quiet_of_same (c4 _)) | (go_at_call 73; exact Calls.quiet_of_same (c5 _)))
            go_wp2_with (first | (go_at_call 74; refine (c6 _).mono ?_; rintro e w' ⟨rfl, hw⟩; rw [hw]; clear hw w') | (go_at_call 76; refine (c7 _).mono ?_; rintro e w2 ⟨rfl, hb2⟩) | (go_at_call 75; refine (c8 _).mono ?_; rintro e w3 ⟨rfl, hb3⟩))
            go_ret2
            refine ⟨rfl, ?_⟩
            exact below_tr (below_tr (HB1.out.trans (below_drewN _ _ _)) hb2) hb3
          · have e1 : creErr d.data.toList role skip (cp : Int) peer sec.data.toList draw = 9 := by rw [e2, if_neg (by rw [hdl]; omega), if_neg (by rw [hdl]; exact hz)]
            rw [decide_eq_false hz] at c6
            rw [crePlan, e1, if_neg (by omega)]
            generalize 1 + 2 * halfN cp = nn at *
            clear e1 e2 p1 p2 hA hD hse hz
            go_enter Try.func51, Try.ntmps51
            go_upto_region 7 with (first | (go_at_call 53; refine (c1 _).mono ?_; rintro e w' ⟨rfl, hw⟩; rw [hw]; clear hw w') | (go_at_call 72; refine (c2 _).mono ?_; rintro e w1 ⟨rfl, hb1⟩; have k0 := hb1.cell (p := ⟨w.heap.size, 0, none⟩) (by simp); have k1 := hb1.cell (p := ⟨w.heap.size, 1, none⟩) (by simp); have k2 := hb1.cell (p := ⟨w.heap.size, 2, none⟩) (by simp); have k3 := hb1.cell (p := ⟨w.heap.size, 3, none⟩) (by simp); simp [go_sem] at k0 k1 k2 k3; have HB1 : Hid (Below w.heap.size w w1) := ((Below.refl _ _).alloc (Nat.le_refl _) _).trans (hb1.mono (by simp)); clear hb1) | (go_at_call 42; refine (c3 _).mono ?_; rintro e w' ⟨rfl, hw⟩; rw [hw]; clear hw w'))
            go_quiet (first | (go_at_call 59; exact Calls.quiet_of_same (c4 _)) | (go_at_call 73; exact Calls.quiet_of_same (c5 _)))
            go_wp2_with (first | (go_at_call 74; refine (c6 _).mono ?_; rintro e w' ⟨rfl, hw⟩; rw [hw]; clear hw w'))
            go_ret2
            refine ⟨rfl, ?_⟩
            exact HB1.out.trans (below_drewN _ _ _)
      · have e1 : creErr d.data.toList role skip cap peer sec.data.toList draw = 1 := by rw [creErr, if_pos hD, if_pos hA, if_neg (by rw [len_list]; exact h8)]
        rw [crePlan, e1, if_neg (by omega)]
        have h8I : ¬ (sec.size : Int) = 8 := by omega
        unfold maxLen at hsec
        clear e1 hA hD hcf hse
        go_enter Try.func51, Try.ntmps51
        go_wp2_with (first | (go_at_call 53; refine (c1 _).mono ?_; rintro e w' ⟨rfl, hw⟩; rw [hw]; clear hw w') | (go_at_call 72; refine (c2 _).mono ?_; rintro e w1 ⟨rfl, hb1⟩; have k0 := hb1.cell (p := ⟨w.heap.size, 0, none⟩) (by simp); have k1 := hb1.cell (p := ⟨w.heap.size, 1, none⟩) (by simp); have k2 := hb1.cell (p := ⟨w.heap.size, 2, none⟩) (by simp); have k3 := hb1.cell (p := ⟨w.heap.size, 3, none⟩) (by simp); simp [go_sem] at k0 k1 k2 k3; have HB1 : Hid (Below w.heap.size w w1) := ((Below.refl _ _).alloc (Nat.le_refl _) _).trans (hb1.mono (by simp)); clear hb1) | (go_at_call 42; refine (c3 _).mono ?_; rintro e w' ⟨rfl, hw⟩; rw [hw]; clear hw w'))
        go_ret2; exact ⟨rfl, HB1.out⟩
    · have e1 : creErr d.data.toList role skip cap peer sec.data.toList draw = 3 := by rw [creErr, if_pos hD, if_neg hA]
      rw [crePlan, e1, if_neg (by omega)]
      by_cases hcf : CfgOk role skip cap peer
      · have hse : ¬ Sec draw := fun h => hA ((cfg_allow role skip cap peer draw).1 ⟨hcf, h⟩)
        rw [decide_eq_true hcf] at c2
        rw [decide_eq_false hse] at c3
        clear e1 hA hD hcf hse
        go_enter Try.func51, Try.ntmps51
        go_wp2_with (first | (go_at_call 53; refine (c1 _).mono ?_; rintro e w' ⟨rfl, hw⟩; rw [hw]; clear hw w') | (go_at_call 72; refine (c2 _).mono ?_; rintro e w1 ⟨rfl, hb1⟩; have k0 := hb1.cell (p := ⟨w.heap.size, 0, none⟩) (by simp); have k1 := hb1.cell (p := ⟨w.heap.size, 1, none⟩) (by simp); have k2 := hb1.cell (p := ⟨w.heap.size, 2, none⟩) (by simp); have k3 := hb1.cell (p := ⟨w.heap.size, 3, none⟩) (by simp); simp [go_sem] at k0 k1 k2 k3; have HB1 : Hid (Below w.heap.size w w1) := ((Below.refl _ _).alloc (Nat.le_refl _) _).trans (hb1.mono (by simp)); clear hb1) | (go_at_call 42; refine (c3 _).mono ?_; rintro e w' ⟨rfl, hw⟩; rw [hw]; clear hw w'))
        go_ret2; exact ⟨rfl, HB1.out⟩
      · rw [decide_eq_false hcf] at c2
        clear e1 hA hD hcf
        go_enter Try.func51, Try.ntmps51
        go_wp2_with (first | (go_at_call 53; refine (c1 _).mono ?_; rintro e w' ⟨rfl, hw⟩; rw [hw]; clear hw w') | (go_at_call 72; refine (c2 _).mono ?_; rintro e w1 ⟨rfl, hb1⟩; have k0 := hb1.cell (p := ⟨w.heap.size, 0, none⟩) (by simp); have k1 := hb1.cell (p := ⟨w.heap.size, 1, none⟩) (by simp); have k2 := hb1.cell (p := ⟨w.heap.size, 2, none⟩) (by simp); have k3 := hb1.cell (p := ⟨w.heap.size, 3, none⟩) (by simp); simp [go_sem] at k0 k1 k2 k3; have HB1 : Hid (Below w.heap.size w w1) := ((Below.refl _ _).alloc (Nat.le_refl _) _).trans (hb1.mono (by simp)); clear hb1) | (go_at_call 42; refine (c3 _).mono ?_; rintro e w' ⟨rfl, hw⟩; rw [hw]; clear hw w'))
        go_ret2; exact ⟨rfl, HB1.out⟩
theorem str_beq2 (a : ByteArray) (y : List UInt8) : (a.toList == (str y).toList) = decide (a.data.toList = y) := by
  rw [ByteArray.toList_eq, ByteArray.toList_eq, str_toList]
  by_cases h : a.data.toList = y
  · rw [decide_eq_true h, h]; simp
  · rw [decide_eq_false h, beq_eq_false_iff_ne]; exact h
end Go.Proofs.Ytabpkohcimiceab
