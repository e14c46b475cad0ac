import Derived.Test.YtabpkohcimiceabGreatSendX
import Derived.Test.YtabpkohcimiceabGreatRefW
import Derived.ProofKit
import Derived.OpenShut
import Derived.ShutString
namespace Go.Proofs.YtabpkohcimiceabGreat
set_option maxRecDepth 100000
set_option maxHeartbeats 1000000
open Go.RowKit
set_option linter.unusedVariables false
def mixErr (k s : ByteArray) : Int := if k.size = 8 then (if s.size ≤ 200 then 0 else 2) else 1
def mixOut (k s : ByteArray) : ByteArray := if k.size = 8 ∧ s.size ≤ 200 then str (mixed k.data.toList s.data.toList) else ⟨#[]⟩
theorem pawlMix_any (k s : ByteArray) (w : World) (hk : k.size ≤ maxLen) (hs : s.size ≤ maxLen) :
    Calls Tryz.prog 40 #[.string k, .string s] w fun e w' => e = .returned (.tuple #[.string (mixOut k s), .int .i64 (mixErr k s)]) ∧ Below w.heap.size w w' := by
  by_cases h : k.size = 8
  · have h' : (k.size : Int) = 8 := by omega
    by_cases g : s.size ≤ 200
    · have e1 : mixOut k s = str (mixed k.data.toList s.data.toList) := by rw [mixOut, if_pos ⟨h, g⟩]
      have e2 : mixErr k s = 0 := by rw [mixErr, if_pos h, if_pos g]
      rw [e1, e2]; clear e1 e2
      go_enter Tryz.func40, Tryz.ntmps40
      go_wp2_with (go_at_call 83; refine (keysMix_any k s _ hk (by omega)).mono ?_; rintro e w' ⟨rfl, hb⟩)
      go_ret2; exact ⟨rfl, hb⟩
    · have e1 : mixOut k s = ⟨#[]⟩ := by rw [mixOut, if_neg (by omega)]
      have e2 : mixErr k s = 2 := by rw [mixErr, if_pos h, if_neg g]
      rw [e1, e2]; clear e1 e2
      go_enter Tryz.func40, Tryz.ntmps40
      go_wp2; go_ret2; exact ⟨rfl, Below.refl _ _⟩
  · have e1 : mixOut k s = ⟨#[]⟩ := by rw [mixOut, if_neg (by omega)]
    have e2 : mixErr k s = 1 := by rw [mixErr, if_neg h]
    rw [e1, e2]; clear e1 e2
    have h' : ¬ (k.size : Int) = 8 := by omega
    go_enter Tryz.func40, Tryz.ntmps40
    go_wp2; go_ret2; exact ⟨rfl, Below.refl _ _⟩
theorem refMix_any (k s : ByteArray) (w : World) (hk : k.size ≤ maxLen) (hs : s.size ≤ maxLen) :
    Calls Tryz.prog 41 #[.string k, .string s] w fun e w' => e = .returned (.tuple #[.string (mixOut k s), .int .i64 (mixErr k s)]) ∧ Below w.heap.size w w' := by
  by_cases h : k.size = 8
  · have h' : (k.size : Int) = 8 := by omega
    by_cases g : s.size ≤ 200
    · have e1 : mixOut k s = str (mixed k.data.toList s.data.toList) := by rw [mixOut, if_pos ⟨h, g⟩]
      have e2 : mixErr k s = 0 := by rw [mixErr, if_pos h, if_pos g]
      rw [e1, e2]; clear e1 e2
      go_enter Tryz.func41, Tryz.ntmps41
      go_wp2_with (go_at_call 84; refine (mixed_any k s _ h (by omega)).mono ?_; rintro e w' ⟨rfl, hb⟩)
      go_ret2; exact ⟨rfl, hb⟩
    · have e1 : mixOut k s = ⟨#[]⟩ := by rw [mixOut, if_neg (by omega)]
      have e2 : mixErr k s = 2 := by rw [mixErr, if_pos h, if_neg g]
      rw [e1, e2]; clear e1 e2
      go_enter Tryz.func41, Tryz.ntmps41
      go_wp2; go_ret2; exact ⟨rfl, Below.refl _ _⟩
  · have e1 : mixOut k s = ⟨#[]⟩ := by rw [mixOut, if_neg (by omega)]
    have e2 : mixErr k s = 1 := by rw [mixErr, if_neg h]
    rw [e1, e2]; clear e1 e2
    have h' : ¬ (k.size : Int) = 8 := by omega
    go_enter Tryz.func41, Tryz.ntmps41
    go_wp2; go_ret2; exact ⟨rfl, Below.refl _ _⟩
theorem mixErr_bd (k s : ByteArray) : 0 ≤ mixErr k s ∧ mixErr k s ≤ 2 := by unfold mixErr; split <;> (try split) <;> omega
theorem mixes_walk (a0 : ByteArray) (a1 : ByteArray) (w0 : a0.size ≤ maxLen) (w1 : a1.size ≤ maxLen) (w : World) :
    Calls Tryz.prog 13 #[.string a0, .string a1] w fun e w' => e = .returned (.bool true) ∧ Below w.heap.size w w' := by
  obtain ⟨b0, b1⟩ := mixErr_bd a0 a1
  go_enter Tryz.func13, Tryz.ntmps13
  go_wp2_with (first | (go_at_call 40; refine (pawlMix_any a0 a1 _ w0 w1).mono ?_; rintro e w' ⟨rfl, hb1⟩) | (go_at_call 41; refine (refMix_any a0 a1 _ w0 w1).mono ?_; rintro e w2 ⟨rfl, hb2⟩) | go_in)
  go_ret; exact ⟨rfl, below_tr hb1 hb2⟩
theorem powers_walk (a0 a1 : Int) (w0 : (Lit.int .i64 a0).wf = true) (w1 : (Lit.int .i64 a1).wf = true) (w : World) :
    Calls Tryz.prog 14 #[.int .i64 a0, .int .i64 a1] w fun e w' => e = .returned (.bool true) ∧ Below w.heap.size w w' := by
  obtain ⟨b0, b1⟩ := shErr_bd a0 a1; obtain ⟨b2, b3⟩ := shErr_bd a0 7; clear w0 w1
  go_enter Tryz.func14, Tryz.ntmps14
  go_wp2_with (first | (go_at_call 42; refine (pawlPublic_any _ _).mono ?_; rintro e w' ⟨rfl, rfl⟩) | (go_at_call 34; refine (refPublic_any _ _).mono ?_; rintro e w' ⟨rfl, rfl⟩) | (go_at_call 43; refine (pawlShared_any _ _ _).mono ?_; rintro e w' ⟨rfl, rfl⟩) | (go_at_call 44; refine (refShared_any _ _ _).mono ?_; rintro e w' ⟨rfl, rfl⟩) | go_in)
  go_ret; exact ⟨rfl, Below.refl _ _⟩
theorem disk_facts {d : ByteArray} (h : isDiskL d.data.toList = true) : ∃ k, d.size = k * 32 ∧ 1 ≤ k ∧ k ≤ 40 := by
  rw [isDiskL, decide_eq_true_eq, len_list] at h
  exact ⟨d.size / 32, by omega, by omega, by omega⟩
theorem readPlan_no (d p : ByteArray) (w : World) (hd : d.size ≤ maxLen) (h : isDiskL d.data.toList = false) :
    Calls Tryz.prog 77 #[.string d, .string p] w fun e w' => e = .returned (.tuple #[.slice none 0 0, .int .i64 6]) ∧ w' = w := by
  have c1 := fun w => devDisk_any d w hd
  rw [h] at c1
  go_enter Tryz.func77, Tryz.ntmps77
  go_wp2_with (first | (go_at_call 53; refine (c1 _).mono ?_; rintro e w' ⟨rfl, hw⟩; rw [hw]; clear hw w'))
  go_ret2; exact ⟨rfl, rfl⟩
theorem readPlan_bad (d p : ByteArray) (k : Nat) (w : World) (hd : d.size = k * 32) (hk : k ≤ 40) (hp : p.size ≤ maxLen) (h : isDiskL d.data.toList = true) (hr : recsL p.data.toList k = none) :
    Calls Tryz.prog 77 #[.string d, .string p] w fun e w' => e = .returned (.tuple #[.slice none 0 0, .int .i64 7]) ∧ Below w.heap.size w w' := by
  have c1 := fun w => devDisk_any d w (by unfold maxLen; omega)
  rw [h] at c1
  have c2 := fun w => sectors_any d k w (by unfold maxLen; omega) hd
  have c3 := fun w => read_any p k w hp (by omega)
  rw [hr] at c3
  have c4 : ∀ w, Calls Tryz.prog 126 #[.string p, .int .i64 k] w fun e w' => e = .returned (.tuple #[.slice none 0 0, .bool false]) ∧ Below w.heap.size w w' := c3
  clear c3 hr h hd
  go_enter Tryz.func77, Tryz.ntmps77
  go_wp2_with (first | (go_at_call 53; refine (c1 _).mono ?_; rintro e w' ⟨rfl, hw⟩; rw [hw]; clear hw w') | (go_at_call 56; refine (c2 _).mono ?_; rintro e w' ⟨rfl, hw⟩; rw [hw]; clear hw w') | (go_at_call 126; refine (c4 _).mono ?_; rintro e w2 ⟨rfl, hb⟩))
  go_ret2; exact ⟨rfl, hb⟩
theorem readPlan_ok (d p : ByteArray) (k : Nat) (l : List RecM) (w : World) (hd : d.size = k * 32) (hk : k ≤ 40) (hp : p.size ≤ maxLen) (h : isDiskL d.data.toList = true) (hr : recsL p.data.toList k = some l) :
    Calls Tryz.prog 77 #[.string d, .string p] w fun e w' => ∃ g cap, e = .returned (.tuple #[.slice (some ⟨g, 0, none⟩) l.length cap, .int .i64 0]) ∧ RecsIn w' g cap l ∧ Below w.heap.size w w' := by
  have c1 := fun w => devDisk_any d w (by unfold maxLen; omega)
  rw [h] at c1
  have c2 := fun w => sectors_any d k w (by unfold maxLen; omega) hd
  have c3 := fun w => read_any p k w hp (by omega)
  rw [hr] at c3
  have c4 : ∀ w, Calls Tryz.prog 126 #[.string p, .int .i64 k] w fun e w' => ∃ g cap, e = .returned (.tuple #[.slice (some ⟨g, 0, none⟩) l.length cap, .bool true]) ∧ RecsIn w' g cap l ∧ Below w.heap.size w w' :=
    fun w => (c3 w).mono fun e w' ⟨⟨g, cap, h1, h2⟩, h3⟩ => ⟨g, cap, h1, .of_own h2, h3⟩
  clear c3 hr h hd
  go_enter Tryz.func77, Tryz.ntmps77
  go_wp2_with (first | (go_at_call 53; refine (c1 _).mono ?_; rintro e w' ⟨rfl, hw⟩; rw [hw]; clear hw w') | (go_at_call 56; refine (c2 _).mono ?_; rintro e w' ⟨rfl, hw⟩; rw [hw]; clear hw w') | (go_at_call 126; refine (c4 _).mono ?_; rintro e w2 ⟨g, cap, rfl, hv, hb⟩))
  go_ret2; exact ⟨_, _, rfl, hv, hb⟩
theorem pawlApply_any (d p : ByteArray) (w : World) (hd : d.size ≤ maxLen) (hp : p.size ≤ maxLen) :
    Calls Tryz.prog 36 #[.string d, .string p] w fun e w' => e = .returned (.tuple #[.string (str (applyR d.data.toList p.data.toList).1), .int .i64 (applyR d.data.toList p.data.toList).2]) ∧ Below w.heap.size w w' := by
  cases hD : isDiskL d.data.toList with
  | false =>
    have e1 : applyR d.data.toList p.data.toList = ([], 6) := by rw [applyR, if_neg (by rw [hD]; simp)]
    rw [e1]
    have c1 := fun w => readPlan_no d p w hd hD
    clear e1
    go_enter Tryz.func36, Tryz.ntmps36
    go_wp2_with (first | (go_at_call 77; refine (c1 _).mono ?_; rintro e w' ⟨rfl, hw⟩; rw [hw]; clear hw w'))
    go_ret2; exact ⟨rfl, Below.refl _ _⟩
  | true =>
    obtain ⟨k, hk1, hk2, hk3⟩ := disk_facts hD
    have hdk : d.data.toList.length / 32 = k := by rw [len_list]; omega
    cases hR : recsL p.data.toList k with
    | none =>
      have e1 : applyR d.data.toList p.data.toList = ([], 7) := by rw [applyR, if_pos hD, hdk, hR]
      rw [e1]
      have c1 := fun w => readPlan_bad d p k w hk1 hk3 hp hD hR
      clear e1
      go_enter Tryz.func36, Tryz.ntmps36
      go_wp2_with (first | (go_at_call 77; refine (c1 _).mono ?_; rintro e w2 ⟨rfl, hb⟩))
      go_ret2; exact ⟨rfl, hb⟩
    | some l =>
      obtain ⟨hl1, hl2⟩ := recsF_ok _ _ _ _ hR; have hfit := fit_of_ok hl2
      have e1 : applyR d.data.toList p.data.toList = (carryF d.data.toList l l.length, 0) := by
        rw [applyR, if_pos hD, hdk, hR]
        show (leftL _ _ _ _, _) = _
        rw [apply_run _ l k (by rw [len_list]; exact hk1) hfit]
      rw [e1]
      have c1 := fun w => readPlan_ok d p k l w hk1 hk3 hp hD hR
      have c2 := fun g cap w h => carryOut_any d l g cap k w hk1 (by omega) hfit h (by omega)
      clear e1 hR hD
      go_enter Tryz.func36, Tryz.ntmps36
      go_wp2_with (first | (go_at_call 77; refine (c1 _).mono ?_; rintro e w2 ⟨g, cap, rfl, hv, hb⟩) | (go_at_call 78; refine (c2 _ _ _ hv).mono ?_; rintro e w3 ⟨rfl, hb3⟩))
      go_ret2; exact ⟨rfl, below_tr hb hb3⟩
theorem pawlCrash_any (d p : ByteArray) (n : Int) (kp : ByteArray) (w : World) (hd : d.size ≤ maxLen) (hp : p.size ≤ maxLen) (hkp : kp.size ≤ maxLen) :
    Calls Tryz.prog 38 #[.string d, .string p, .int .i64 n, .string kp] w fun e w' => e = .returned (.tuple #[.string (str (crashR d.data.toList p.data.toList n kp.data.toList).1), .int .i64 (crashR d.data.toList p.data.toList n kp.data.toList).2]) ∧ Below w.heap.size w w' := by
  cases hD : isDiskL d.data.toList with
  | false =>
    have e1 : crashR d.data.toList p.data.toList n kp.data.toList = ([], 6) := by rw [crashR, if_neg (by rw [hD]; simp)]
    rw [e1]
    have c1 := fun w => readPlan_no d p w hd hD
    clear e1
    go_enter Tryz.func38, Tryz.ntmps38
    go_wp2_with (first | (go_at_call 77; refine (c1 _).mono ?_; rintro e w' ⟨rfl, hw⟩; rw [hw]; clear hw w'))
    go_ret2; exact ⟨rfl, Below.refl _ _⟩
  | true =>
    obtain ⟨k, hk1, hk2, hk3⟩ := disk_facts hD
    have hdk : d.data.toList.length / 32 = k := by rw [len_list]; omega
    cases hR : recsL p.data.toList k with
    | none =>
      have e1 : crashR d.data.toList p.data.toList n kp.data.toList = ([], 7) := by rw [crashR, if_pos hD, hdk, hR]
      rw [e1]
      have c1 := fun w => readPlan_bad d p k w hk1 hk3 hp hD hR
      clear e1
      go_enter Tryz.func38, Tryz.ntmps38
      go_wp2_with (first | (go_at_call 77; refine (c1 _).mono ?_; rintro e w2 ⟨rfl, hb⟩))
      go_ret2; exact ⟨rfl, hb⟩
    | some l =>
      obtain ⟨hl1, hl2⟩ := recsF_ok _ _ _ _ hR; have hfit := fit_of_ok hl2
      have e1 : crashR d.data.toList p.data.toList n kp.data.toList = if n < 0 ∨ (l.length : Int) < n then ([], 3) else if 100 < kp.size then ([], 2) else (leftL d.data.toList l n.toNat kp.data.toList, 0) := by rw [crashR, if_pos hD, hdk, hR, len_list]
      rw [e1]
      have c1 := fun w => readPlan_ok d p k l w hk1 hk3 hp hD hR
      clear e1 hR hD
      unfold maxLen at hkp
      by_cases h1 : n < 0
      · rw [if_pos (.inl h1)]
        go_enter Tryz.func38, Tryz.ntmps38
        go_wp2_with (first | (go_at_call 77; refine (c1 _).mono ?_; rintro e w2 ⟨g, cap, rfl, hv, hb⟩))
        go_ret2; exact ⟨rfl, hb⟩
      by_cases h2 : (l.length : Int) < n
      · rw [if_pos (.inr h2)]
        go_enter Tryz.func38, Tryz.ntmps38
        go_wp2_with (first | (go_at_call 77; refine (c1 _).mono ?_; rintro e w2 ⟨g, cap, rfl, hv, hb⟩))
        go_ret2; exact ⟨rfl, hb⟩
      rw [if_neg (by omega)]
      by_cases h3 : 100 < kp.size
      · rw [if_pos h3]
        have h3' : (100 : Int) < (kp.size : Int) := by omega
        go_enter Tryz.func38, Tryz.ntmps38
        go_wp2_with (first | (go_at_call 77; refine (c1 _).mono ?_; rintro e w2 ⟨g, cap, rfl, hv, hb⟩))
        go_ret2; exact ⟨rfl, hb⟩
      · rw [if_neg h3]
        have h3' : ¬ (100 : Int) < (kp.size : Int) := by omega
        obtain ⟨m, rfl⟩ := Int.eq_ofNat_of_zero_le (show 0 ≤ n by omega)
        have c2 := fun g cap w h => fail_any d l g cap m k kp w hk1 (by omega) hfit h (by omega) (by omega) (by unfold maxLen; omega)
        rw [Int.toNat_natCast, leftL_run _ l m k _ (by rw [len_list]; exact hk1) hfit (by omega)]
        go_enter Tryz.func38, Tryz.ntmps38
        go_wp2_with (first | (go_at_call 77; refine (c1 _).mono ?_; rintro e w2 ⟨g, cap, rfl, hv, hb⟩) | (go_at_call 82; refine (c2 _ _ _ hv).mono ?_; rintro e w3 ⟨rfl, hb3⟩))
        go_ret2; exact ⟨rfl, below_tr hb hb3⟩
theorem applyR_bd (d p : List UInt8) : 0 ≤ (applyR d p).2 ∧ (applyR d p).2 ≤ 7 := by
  rw [applyR]
  split
  · split <;> simp
  · simp
theorem crashR_bd (d p : List UInt8) (n : Int) (k : List UInt8) : 0 ≤ (crashR d p n k).2 ∧ (crashR d p n k).2 ≤ 7 := by
  rw [crashR]
  split
  · split
    · simp
    · split
      · simp
      · split <;> simp
  · simp
theorem replays_walk (a0 a1 : ByteArray) (a2 : Int) (a3 : ByteArray) (w0 : a0.size ≤ maxLen) (w1 : a1.size ≤ maxLen) (w2 : (Lit.int .i64 a2).wf = true) (w3 : a3.size ≤ maxLen) (w : World) :
    Calls Tryz.prog 12 #[.string a0, .string a1, .int .i64 a2, .string a3] w fun e w' => e = .returned (.bool true) ∧ Below w.heap.size w w' := by
  obtain ⟨b0, b1⟩ := applyR_bd a0.data.toList a1.data.toList; obtain ⟨b2, b3⟩ := crashR_bd a0.data.toList a1.data.toList a2 a3.data.toList
  have h1 := fun w => pawlApply_any a0 a1 w w0 w1
  have h2 := fun w => refApply_any a0 a1 w w0 w1
  have h3 := fun w => pawlCrash_any a0 a1 a2 a3 w w0 w1 w3
  have h4 := fun w => refCrash_any a0 a1 a2 a3 w w0 w1 w3
  generalize applyR a0.data.toList a1.data.toList = A at *
  generalize crashR a0.data.toList a1.data.toList a2 a3.data.toList = C at *
  obtain ⟨A1, A2⟩ := A; obtain ⟨C1, C2⟩ := C
  simp only at b0 b1 b2 b3 h1 h2 h3 h4
  go_enter Tryz.func12, Tryz.ntmps12
  go_wp2_with (first | (go_at_call 36; refine (h1 _).mono ?_; rintro e x1 ⟨rfl, hb1⟩) | (go_at_call 37; refine (h2 _).mono ?_; rintro e x2 ⟨rfl, hb2⟩) | (go_at_call 38; refine (h3 _).mono ?_; rintro e x3 ⟨rfl, hb3⟩) | (go_at_call 39; refine (h4 _).mono ?_; rintro e x4 ⟨rfl, hb4⟩) | go_in)
  go_ret; exact ⟨rfl, below_tr (below_tr (below_tr hb1 hb2) hb3) hb4⟩
theorem sends_walk (a0 a1 : ByteArray) (a2 : Int) (a3 : ByteArray) (w0 : a0.size ≤ maxLen) (w1 : a1.size ≤ maxLen) (w2 : (Lit.int .i64 a2).wf = true) (w3 : a3.size ≤ maxLen) (w : World) :
    Calls Tryz.prog 28 #[.string a0, .string a1, .int .i64 a2, .string a3] w fun e w' => e = .returned (.bool true) ∧ Below w.heap.size w w' := by
  have w2' : -9223372036854775808 ≤ a2 ∧ a2 ≤ 9223372036854775807 := by
    simp [Lit.wf, IntKind.min, IntKind.max, IntKind.signed, IntKind.bits] at w2
    omega
  obtain ⟨n0, n1⟩ := w2'; obtain ⟨e0, e1⟩ := sendErr_bd a0.data.toList a1.data.toList
  have c1 := fun w => pawlSend_any a0 a1 w w0
  have c2 := fun w => refSend_any a0 a1 w w0
  by_cases hok : sendErr a0.data.toList a1.data.toList = 0
  · obtain ⟨k, hD, hk, hk1, hk2, hto, hpl, r1, r2, r3⟩ := send_safe _ _ hok
    rw [len_list] at hk
    have hps : (str (sendPlan a0.data.toList a1.data.toList)).size ≤ maxLen := by
      obtain ⟨q1, q2⟩ := recsF_ok _ _ _ _ r1; rw [str_size, hpl]
      have := encL_len k _ q2
      unfold maxLen; omega
    have c3 := fun w => safe_any a0 a0 (str (sendTo a0.data.toList a1.data.toList)) (str (sendPlan a0.data.toList a1.data.toList)) _ k a2 a3 w hD hk hk2 hps (by rw [str_toList]; exact r1) n0 n1 w3 (by rw [str_toList]; exact r2) (by rw [str_toList]; exact r3)
    rw [hok] at c1 c2
    generalize str (sendPlan a0.data.toList a1.data.toList) = pl at *
    generalize str (sendTo a0.data.toList a1.data.toList) = tt at *
    generalize str (sendLet a0.data.toList a1.data.toList) = lt at *
    clear r1 r2 r3 hok hto hpl hD hps e0 e1
    go_enter Tryz.func28, Tryz.ntmps28
    go_wp2_with (first | (go_at_call 29; (with_reducible refine (c1 _).mono ?_); rintro e x0 ⟨rfl, hb0⟩) | (go_at_call 66; (with_reducible refine (c2 _).mono ?_); rintro e x1 ⟨rfl, hb1⟩) | (go_at_call 52; (with_reducible refine (c3 _).mono ?_); rintro e x2 ⟨rfl, hb2⟩) | go_in)
    go_ret; exact ⟨rfl, below_tr (below_tr hb0 hb1) hb2⟩
  · have p1 : sendPlan a0.data.toList a1.data.toList = [] := by rw [sendPlan, if_neg hok]
    rw [p1] at c1
    generalize str (sendTo a0.data.toList a1.data.toList) = tt at *
    generalize str (sendLet a0.data.toList a1.data.toList) = lt at *
    generalize sendErr a0.data.toList a1.data.toList = E at *
    have hokB : (E == 0) = false := by rw [beq_eq_false_iff_ne]; exact hok
    have c1' : ∀ w, Calls Tryz.prog 29 #[.string a0, .string a1] w fun e w' => e = .returned (.tuple #[.string lt, .string ⟨#[]⟩, .int .i64 E]) ∧ Below w.heap.size w w' := c1
    clear p1 c1
    go_enter Tryz.func28, Tryz.ntmps28
    go_wp2_with (first | (go_at_call 29; (with_reducible refine (c1' _).mono ?_); rintro e x0 ⟨rfl, hb0⟩) | (go_at_call 66; (with_reducible refine (c2 _).mono ?_); rintro e x1 ⟨rfl, hb1⟩) | go_in)
    go_ret; exact ⟨rfl, below_tr hb0 hb1⟩
set_option linter.unusedSimpArgs false
theorem receives_walk (a0 a1 : ByteArray) (a2 a3 : Int) (a4 : ByteArray) (w0 : a0.size ≤ maxLen) (w1 : a1.size ≤ maxLen) (w2 : (Lit.int .i64 a2).wf = true) (w3 : (Lit.int .i64 a3).wf = true) (w4 : a4.size ≤ maxLen) (w : World) :
    Calls Tryz.prog 30 #[.string a0, .string a1, .int .i64 a2, .int .i64 a3, .string a4] w fun e w' => e = .returned (.bool true) ∧ Below w.heap.size w w' := by
  have w3' : -9223372036854775808 ≤ a3 ∧ a3 ≤ 9223372036854775807 := by
    simp [Lit.wf, IntKind.min, IntKind.max, IntKind.signed, IntKind.bits] at w3
    omega
  obtain ⟨n0, n1⟩ := w3'; obtain ⟨e0, e1⟩ := recvErr_bd a0.data.toList a1.data.toList a2
  have c1 := fun w => pawlReceive_any a0 a1 a2 w w0 w1
  have c2 := fun w => refReceive_any a0 a1 a2 w w0 w1
  by_cases hok : recvErr a0.data.toList a1.data.toList a2 = 0
  · obtain ⟨k, hD, hk, hk1, hk2, hto, hpl, r1, r2, r3⟩ := recv_safe _ _ _ hok
    rw [len_list] at hk
    have hps : (str (recvPlan a0.data.toList a1.data.toList a2)).size ≤ maxLen := by
      obtain ⟨q1, q2⟩ := recsF_ok _ _ _ _ r1; rw [str_size, hpl]
      have := encL_bd k _ q2
      unfold maxLen; omega
    have c3 := fun w => safe_any a0 a0 (str (recvTo a0.data.toList a1.data.toList a2)) (str (recvPlan a0.data.toList a1.data.toList a2)) _ k a3 a4 w hD hk hk2 hps (by rw [str_toList]; exact r1) n0 n1 w4 (by rw [str_toList]; exact r2) (by rw [str_toList]; exact r3)
    rw [hok] at c1 c2
    generalize str (recvPlan a0.data.toList a1.data.toList a2) = pl at *
    generalize str (recvTo a0.data.toList a1.data.toList a2) = tt at *
    generalize str (recvTxt a0.data.toList a1.data.toList a2) = lt at *
    clear r1 r2 r3 hok hto hpl hD hps e0 e1
    go_enter Tryz.func30, Tryz.ntmps30
    go_wp2_with (first | (go_at_call 31; (with_reducible refine (c1 _).mono ?_); rintro e x0 ⟨rfl, hb0⟩) | (go_at_call 70; (with_reducible refine (c2 _).mono ?_); rintro e x1 ⟨rfl, hb1⟩) | (go_at_call 52; (with_reducible refine (c3 _).mono ?_); rintro e x2 ⟨rfl, hb2⟩) | go_in)
    go_ret; exact ⟨rfl, below_tr (below_tr hb0 hb1) hb2⟩
  · have p1 : recvPlan a0.data.toList a1.data.toList a2 = [] := by rw [recvPlan, if_neg hok]
    rw [p1] at c1
    generalize str (recvTo a0.data.toList a1.data.toList a2) = tt at *
    generalize str (recvTxt a0.data.toList a1.data.toList a2) = lt at *
    generalize recvErr a0.data.toList a1.data.toList a2 = E at *
    have hokB : (E == 0) = false := by rw [beq_eq_false_iff_ne]; exact hok
    have c1' : ∀ w, Calls Tryz.prog 31 #[.string a0, .string a1, .int .i64 a2] w fun e w' => e = .returned (.tuple #[.string lt, .string ⟨#[]⟩, .int .i64 E]) ∧ Below w.heap.size w w' := c1
    clear p1 c1
    go_enter Tryz.func30, Tryz.ntmps30
    go_wp2_with (first | (go_at_call 31; (with_reducible refine (c1' _).mono ?_); rintro e x0 ⟨rfl, hb0⟩) | (go_at_call 70; (with_reducible refine (c2 _).mono ?_); rintro e x1 ⟨rfl, hb1⟩) | go_in)
    go_ret; exact ⟨rfl, below_tr hb0 hb1⟩
end Go.Proofs.YtabpkohcimiceabGreat
