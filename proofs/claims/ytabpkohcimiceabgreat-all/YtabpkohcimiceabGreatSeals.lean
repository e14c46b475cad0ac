import Derived.Test.YtabpkohcimiceabGreatSeal
namespace Go.Proofs.YtabpkohcimiceabGreat
set_option maxRecDepth 100000
set_option maxHeartbeats 1000000
open Go.RowKit
set_option linter.unusedVariables false
theorem refSeal_any (k h t : ByteArray) (w : World) (hk : k.size ≤ maxLen) (hh : h.size ≤ maxLen) (ht : t.size ≤ maxLen) :
    Calls Tryz.prog 46 #[.string k, .string h, .string t] w fun e w' => e = .returned (.tuple #[.string (sealOut k h t), .int .i64 (sealErr k h t)]) ∧ Below w.heap.size w w' := by
  by_cases a : k.size = 8
  · have a' : (k.size : Int) = 8 := by omega
    by_cases b : h.size = 7
    · have b' : (h.size : Int) = 7 := by omega
      by_cases c : t.size ≤ 40
      · have e1 : sealOut k h t = str (sealL k.data.toList h.data.toList t.data.toList) := by rw [sealOut, if_pos ⟨a, b, c⟩]
        have e2 : sealErr k h t = 0 := by rw [sealErr, if_pos a, if_pos b, if_pos c]
        rw [e1, e2]; exact refSeal_ok k h t w a b c
      · have e1 : sealOut k h t = ⟨#[]⟩ := by rw [sealOut, if_neg (by omega)]
        have e2 : sealErr k h t = 2 := by rw [sealErr, if_pos a, if_pos b, if_neg c]
        rw [e1, e2]; clear e1 e2
        go_enter Tryz.func46, Tryz.ntmps46
        go_wp2; go_ret2; exact ⟨rfl, Below.refl _ _⟩
    · have e1 : sealOut k h t = ⟨#[]⟩ := by rw [sealOut, if_neg (by omega)]
      have e2 : sealErr k h t = 4 := by rw [sealErr, if_pos a, if_neg b]
      rw [e1, e2]; clear e1 e2
      have b' : ¬ (h.size : Int) = 7 := by omega
      go_enter Tryz.func46, Tryz.ntmps46
      go_wp2; go_ret2; exact ⟨rfl, Below.refl _ _⟩
  · have e1 : sealOut k h t = ⟨#[]⟩ := by rw [sealOut, if_neg (by omega)]
    have e2 : sealErr k h t = 1 := by rw [sealErr, if_neg a]
    rw [e1, e2]; clear e1 e2
    have a' : ¬ (k.size : Int) = 8 := by omega
    go_enter Tryz.func46, Tryz.ntmps46
    go_wp2; go_ret2; exact ⟨rfl, Below.refl _ _⟩
theorem pawlUnseal_any (k h s : ByteArray) (w : World) (hk : k.size ≤ maxLen) (hh : h.size ≤ maxLen) (hs : s.size ≤ maxLen) :
    Calls Tryz.prog 47 #[.string k, .string h, .string s] w fun e w' => e = .returned (.tuple #[.string (unOut k h s), .int .i64 (unErr k h s)]) ∧ Below w.heap.size w w' := by
  by_cases a : k.size = 8
  · have a' : (k.size : Int) = 8 := by omega
    by_cases b : h.size = 7
    · have b' : (h.size : Int) = 7 := by omega
      by_cases c : 8 ≤ s.size
      · by_cases d : s.size ≤ 48
        · by_cases f : opensL k.data.toList h.data.toList s.data.toList
          · have e1 : unOut k h s = str (veil k.data.toList (s.data.toList.take (s.size - 8))) := by rw [unOut, if_pos ⟨a, ⟨b, c⟩, d, f⟩]
            have e2 : unErr k h s = 0 := by rw [unErr, if_pos a, if_pos ⟨b, c⟩, if_pos d, if_pos f]
            rw [e1, e2]; clear e1 e2
            have hun := fun w => keysUnseal_yes k h s w hk (by omega) c (by omega) f
            clear f
            go_enter Tryz.func47, Tryz.ntmps47
            go_wp2_with (go_at_call 93; refine (hun _).mono ?_; rintro e w' ⟨rfl, hb⟩)
            go_ret2; exact ⟨rfl, hb⟩
          · have e1 : unOut k h s = ⟨#[]⟩ := by rw [unOut, if_neg (fun g => f g.2.2.2)]
            have e2 : unErr k h s = 5 := by rw [unErr, if_pos a, if_pos ⟨b, c⟩, if_pos d, if_neg f]
            rw [e1, e2]; clear e1 e2
            have hun := fun w => keysUnseal_no k h s w hk (by omega) c (by omega) f
            clear f
            go_enter Tryz.func47, Tryz.ntmps47
            go_wp2_with (go_at_call 93; refine (hun _).mono ?_; rintro e w' ⟨rfl, hb⟩)
            go_ret2; exact ⟨rfl, hb⟩
        · have e1 : unOut k h s = ⟨#[]⟩ := by rw [unOut, if_neg (fun g => d g.2.2.1)]
          have e2 : unErr k h s = 2 := by rw [unErr, if_pos a, if_pos ⟨b, c⟩, if_neg d]
          rw [e1, e2]; clear e1 e2
          go_enter Tryz.func47, Tryz.ntmps47
          go_wp2; go_ret2; exact ⟨rfl, Below.refl _ _⟩
      · have e1 : unOut k h s = ⟨#[]⟩ := by rw [unOut, if_neg (fun g => c g.2.1.2)]
        have e2 : unErr k h s = 4 := by rw [unErr, if_pos a, if_neg (fun g => c g.2)]
        rw [e1, e2]; clear e1 e2
        go_enter Tryz.func47, Tryz.ntmps47
        go_wp2; go_ret2; exact ⟨rfl, Below.refl _ _⟩
    · have e1 : unOut k h s = ⟨#[]⟩ := by rw [unOut, if_neg (fun g => b g.2.1.1)]
      have e2 : unErr k h s = 4 := by rw [unErr, if_pos a, if_neg (fun g => b g.1)]
      rw [e1, e2]; clear e1 e2
      have b' : ¬ (h.size : Int) = 7 := by omega
      go_enter Tryz.func47, Tryz.ntmps47
      go_wp2; go_ret2; exact ⟨rfl, Below.refl _ _⟩
  · have e1 : unOut k h s = ⟨#[]⟩ := by rw [unOut, if_neg (fun g => a g.1)]
    have e2 : unErr k h s = 1 := by rw [unErr, if_neg a]
    rw [e1, e2]; clear e1 e2
    have a' : ¬ (k.size : Int) = 8 := by omega
    go_enter Tryz.func47, Tryz.ntmps47
    go_wp2; go_ret2; exact ⟨rfl, Below.refl _ _⟩
theorem again_test (k h s : ByteArray) (c : 8 ≤ s.size) : ((str (sealL k.data.toList h.data.toList (veil k.data.toList (s.data.toList.take (s.size - 8))))).toList == s.toList) = decide (opensL k.data.toList h.data.toList s.data.toList) := by
  rw [Bool.eq_iff_iff, beq_iff_eq, decide_eq_true_eq, ByteArray.toList_eq, ByteArray.toList_eq, str_toList, ← again_iff _ _ _ (by rw [len_list]; exact c), len_list]
theorem refUnseal_yes (k h s : ByteArray) (w : World) (a : k.size = 8) (b : h.size = 7) (c : 8 ≤ s.size) (d : s.size ≤ 48) (f : opensL k.data.toList h.data.toList s.data.toList) :
    Calls Tryz.prog 48 #[.string k, .string h, .string s] w fun e w' => e = .returned (.tuple #[.string (str (veil k.data.toList (s.data.toList.take (s.size - 8)))), .int .i64 0]) ∧ Below w.heap.size w w' := by
  have a' : (k.size : Int) = 8 := by omega
  have b' : (h.size : Int) = 7 := by omega
  have hq := again_test k h s c
  rw [decide_eq_true f] at hq
  clear f
  obtain ⟨n, hn⟩ : ∃ n, s.size = n + 8 := ⟨s.size - 8, by omega⟩
  have hsub : s.size - 8 = n := by omega
  rw [hsub] at hq ⊢
  have hn' : (s.size : Int) = (n : Int) + 8 := by omega
  have hel := ext_take s n
  have hes : (s.extract 0 n).size = n := by rw [← len_list, hel, List.length_take, len_list]; omega
  obtain ⟨m, hm⟩ : ∃ m, m = str (maskL k.data.toList n) := ⟨_, rfl⟩
  have hms : m.size = n := by rw [hm, str_maskL_size]
  have h1 : ∀ w, Calls Tryz.prog 91 #[.string k, .int .i64 n] w fun e w' => e = .returned (.string m) ∧ Below w.heap.size w w' := by
    intro w; rw [hm]; exact mask_any k n w a (by omega)
  obtain ⟨t, ht⟩ : ∃ t, t = str (veil k.data.toList (s.data.toList.take n)) := ⟨_, rfl⟩
  have hts : t.size = n := by rw [ht, str_veil_size, ← hel, len_list, hes]
  have h2 : ∀ w, Calls Tryz.prog 92 #[.string (s.extract 0 n), .string m] w fun e w' => e = .returned (.string t) ∧ Below w.heap.size w w' := by
    intro w
    have := xored_any (s.extract 0 n) m w (by rw [hes, hms]) (by omega)
    have e := xor_mask k (s.extract 0 n)
    rw [hes] at e
    rw [hm, hes, e, hel, ← ht, ← hm] at this
    exact this
  have h3 := fun w => refSeal_ok k h t w a b (by omega)
  have htl : t.data.toList = veil k.data.toList (s.data.toList.take n) := by rw [ht, str_toList]
  rw [htl] at h3
  rw [← ht]; clear hm ht hms hel hes hts htl hsub
  go_enter Tryz.func48, Tryz.ntmps48
  go_wp2_with (first | (go_at_call 91; refine (h1 _).mono ?_; rintro e w1 ⟨rfl, hb1⟩) | (go_at_call 92; refine (h2 _).mono ?_; rintro e w2 ⟨rfl, hb2⟩) | (go_at_call 46; refine (h3 _).mono ?_; rintro e w3 ⟨rfl, hb3⟩))
  go_ret2; exact ⟨rfl, below_tr (below_tr hb1 hb2) hb3⟩
theorem refUnseal_no (k h s : ByteArray) (w : World) (a : k.size = 8) (b : h.size = 7) (c : 8 ≤ s.size) (d : s.size ≤ 48) (f : ¬ opensL k.data.toList h.data.toList s.data.toList) :
    Calls Tryz.prog 48 #[.string k, .string h, .string s] w fun e w' => e = .returned (.tuple #[.string ⟨#[]⟩, .int .i64 5]) ∧ Below w.heap.size w w' := by
  have a' : (k.size : Int) = 8 := by omega
  have b' : (h.size : Int) = 7 := by omega
  have hq := again_test k h s c
  rw [decide_eq_false f] at hq
  clear f
  obtain ⟨n, hn⟩ : ∃ n, s.size = n + 8 := ⟨s.size - 8, by omega⟩
  have hsub : s.size - 8 = n := by omega
  rw [hsub] at hq
  have hn' : (s.size : Int) = (n : Int) + 8 := by omega
  have hel := ext_take s n
  have hes : (s.extract 0 n).size = n := by rw [← len_list, hel, List.length_take, len_list]; omega
  obtain ⟨m, hm⟩ : ∃ m, m = str (maskL k.data.toList n) := ⟨_, rfl⟩
  have hms : m.size = n := by rw [hm, str_maskL_size]
  have h1 : ∀ w, Calls Tryz.prog 91 #[.string k, .int .i64 n] w fun e w' => e = .returned (.string m) ∧ Below w.heap.size w w' := by
    intro w; rw [hm]; exact mask_any k n w a (by omega)
  obtain ⟨t, ht⟩ : ∃ t, t = str (veil k.data.toList (s.data.toList.take n)) := ⟨_, rfl⟩
  have hts : t.size = n := by rw [ht, str_veil_size, ← hel, len_list, hes]
  have h2 : ∀ w, Calls Tryz.prog 92 #[.string (s.extract 0 n), .string m] w fun e w' => e = .returned (.string t) ∧ Below w.heap.size w w' := by
    intro w
    have := xored_any (s.extract 0 n) m w (by rw [hes, hms]) (by omega)
    have e := xor_mask k (s.extract 0 n)
    rw [hes] at e
    rw [hm, hes, e, hel, ← ht, ← hm] at this
    exact this
  have h3 := fun w => refSeal_ok k h t w a b (by omega)
  have htl : t.data.toList = veil k.data.toList (s.data.toList.take n) := by rw [ht, str_toList]
  rw [htl] at h3
  clear hm ht hms hel hes hts htl hsub
  go_enter Tryz.func48, Tryz.ntmps48
  go_wp2_with (first | (go_at_call 91; refine (h1 _).mono ?_; rintro e w1 ⟨rfl, hb1⟩) | (go_at_call 92; refine (h2 _).mono ?_; rintro e w2 ⟨rfl, hb2⟩) | (go_at_call 46; refine (h3 _).mono ?_; rintro e w3 ⟨rfl, hb3⟩))
  go_ret2; exact ⟨rfl, below_tr (below_tr hb1 hb2) hb3⟩
theorem refUnseal_any (k h s : ByteArray) (w : World) (hk : k.size ≤ maxLen) (hh : h.size ≤ maxLen) (hs : s.size ≤ maxLen) :
    Calls Tryz.prog 48 #[.string k, .string h, .string s] w fun e w' => e = .returned (.tuple #[.string (unOut k h s), .int .i64 (unErr k h s)]) ∧ Below w.heap.size w w' := by
  by_cases a : k.size = 8
  · have a' : (k.size : Int) = 8 := by omega
    by_cases b : h.size = 7
    · have b' : (h.size : Int) = 7 := by omega
      by_cases c : 8 ≤ s.size
      · by_cases d : s.size ≤ 48
        · by_cases f : opensL k.data.toList h.data.toList s.data.toList
          · have e1 : unOut k h s = str (veil k.data.toList (s.data.toList.take (s.size - 8))) := by rw [unOut, if_pos ⟨a, ⟨b, c⟩, d, f⟩]
            have e2 : unErr k h s = 0 := by rw [unErr, if_pos a, if_pos ⟨b, c⟩, if_pos d, if_pos f]
            rw [e1, e2]; clear e1 e2; exact refUnseal_yes k h s w a b c d f
          · have e1 : unOut k h s = ⟨#[]⟩ := by rw [unOut, if_neg (fun g => f g.2.2.2)]
            have e2 : unErr k h s = 5 := by rw [unErr, if_pos a, if_pos ⟨b, c⟩, if_pos d, if_neg f]
            rw [e1, e2]; clear e1 e2; exact refUnseal_no k h s w a b c d f
        · have e1 : unOut k h s = ⟨#[]⟩ := by rw [unOut, if_neg (fun g => d g.2.2.1)]
          have e2 : unErr k h s = 2 := by rw [unErr, if_pos a, if_pos ⟨b, c⟩, if_neg d]
          rw [e1, e2]; clear e1 e2
          go_enter Tryz.func48, Tryz.ntmps48
          go_wp2; go_ret2; exact ⟨rfl, Below.refl _ _⟩
      · have e1 : unOut k h s = ⟨#[]⟩ := by rw [unOut, if_neg (fun g => c g.2.1.2)]
        have e2 : unErr k h s = 4 := by rw [unErr, if_pos a, if_neg (fun g => c g.2)]
        rw [e1, e2]; clear e1 e2
        go_enter Tryz.func48, Tryz.ntmps48
        go_wp2; go_ret2; exact ⟨rfl, Below.refl _ _⟩
    · have e1 : unOut k h s = ⟨#[]⟩ := by rw [unOut, if_neg (fun g => b g.2.1.1)]
      have e2 : unErr k h s = 4 := by rw [unErr, if_pos a, if_neg (fun g => b g.1)]
      rw [e1, e2]; clear e1 e2
      have b' : ¬ (h.size : Int) = 7 := by omega
      go_enter Tryz.func48, Tryz.ntmps48
      go_wp2; go_ret2; exact ⟨rfl, Below.refl _ _⟩
  · have e1 : unOut k h s = ⟨#[]⟩ := by rw [unOut, if_neg (fun g => a g.1)]
    have e2 : unErr k h s = 1 := by rw [unErr, if_neg a]
    rw [e1, e2]; clear e1 e2
    have a' : ¬ (k.size : Int) = 8 := by omega
    go_enter Tryz.func48, Tryz.ntmps48
    go_wp2; go_ret2; exact ⟨rfl, Below.refl _ _⟩
theorem sealOut_size (k h t : ByteArray) : (sealOut k h t).size ≤ maxLen := by
  unfold sealOut
  split
  · rename_i g
    rw [str_size, sealL_length, len_list]; unfold maxLen; omega
  · unfold maxLen; exact Nat.zero_le _
theorem seals_walk (a0 a1 a2 : ByteArray) (w0 : a0.size ≤ maxLen) (w1 : a1.size ≤ maxLen) (w2 : a2.size ≤ maxLen) (w : World) :
    Calls Tryz.prog 15 #[.string a0, .string a1, .string a2] w fun e w' => e = .returned (.bool true) ∧ Below w.heap.size w w' := by
  obtain ⟨b0, b1⟩ := sealErr_bd a0 a1 a2; obtain ⟨b2, b3⟩ := unErr_bd a0 a1 a2
  obtain ⟨s, hs⟩ : ∃ s, s = sealOut a0 a1 a2 := ⟨_, rfl⟩
  have hss : s.size ≤ maxLen := by rw [hs]; exact sealOut_size _ _ _
  obtain ⟨b4, b5⟩ := unErr_bd a0 a1 s
  have h1 := fun w => pawlSeal_any a0 a1 a2 w w0 w1 w2
  have h2 := fun w => refSeal_any a0 a1 a2 w w0 w1 w2
  rw [← hs] at h1 h2
  clear hs
  go_enter Tryz.func15, Tryz.ntmps15
  go_wp2_with (first | (go_at_call 45; refine (h1 _).mono ?_; rintro e x1 ⟨rfl, hb1⟩) | (go_at_call 46; refine (h2 _).mono ?_; rintro e x2 ⟨rfl, hb2⟩) | (go_at_call 47; refine (pawlUnseal_any a0 a1 _ _ w0 w1 (by assumption)).mono ?_; rintro e x3 ⟨rfl, hb3⟩) | (go_at_call 48; refine (refUnseal_any a0 a1 _ _ w0 w1 (by assumption)).mono ?_; rintro e x4 ⟨rfl, hb4⟩) | go_in)
  go_ret
  refine ⟨rfl, ?_⟩
  repeat (first | assumption | (apply below_tr; rotate_left; assumption))
end Go.Proofs.YtabpkohcimiceabGreat
