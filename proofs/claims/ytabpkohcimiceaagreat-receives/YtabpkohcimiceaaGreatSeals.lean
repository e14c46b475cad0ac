import Derived.Test.YtabpkohcimiceaaGreatSeal
import Derived.WalkKit
import Derived.WalkSpells
import Derived.WalkLawsBesides
namespace Go.Proofs.YtabpkohcimiceaaGreat
open Go.RowKit
set_option linter.unusedVariables false

set_option maxRecDepth 100000 in
set_option maxHeartbeats 400000 in
theorem refSeal_any (k h t : ByteArray) (w : World) (hk : k.size ≤ maxLen) (hh : h.size ≤ maxLen) (ht : t.size ≤ maxLen) :
    Calls Tryz.prog 44 #[.string k, .string h, .string t] w fun e w' => e = .returned (.tuple #[.string (sealOut k h t), .int .i64 (sealErr k h t)]) ∧ Below w.heap.size w w' := by
  by_cases a : k.size = 8
  · have a' : (k.size : Int) = 8 := by omega
    by_cases b : h.size = 7
    · have b' : (h.size : Int) = 7 := by omega
      by_cases c : t.size ≤ 40
      · have e1 : sealOut k h t = str (sealL k.data.toList h.data.toList t.data.toList) := by rw [sealOut, if_pos ⟨a, b, c⟩]
        have e2 : sealErr k h t = 0 := by rw [sealErr, if_pos a, if_pos b, if_pos c]
        rw [e1, e2]
        exact refSeal_ok k h t w a b c
      · have e1 : sealOut k h t = ⟨#[]⟩ := by rw [sealOut, if_neg (by omega)]
        have e2 : sealErr k h t = 2 := by rw [sealErr, if_pos a, if_pos b, if_neg c]
        rw [e1, e2]
        clear e1 e2
        go_enter Tryz.func44, Tryz.ntmps44
        go_wp2
        go_ret2
        exact ⟨rfl, Below.refl _ _⟩
    · have e1 : sealOut k h t = ⟨#[]⟩ := by rw [sealOut, if_neg (by omega)]
      have e2 : sealErr k h t = 4 := by rw [sealErr, if_pos a, if_neg b]
      rw [e1, e2]
      clear e1 e2
      have b' : ¬ (h.size : Int) = 7 := by omega
      go_enter Tryz.func44, Tryz.ntmps44
      go_wp2
      go_ret2
      exact ⟨rfl, Below.refl _ _⟩
  · have e1 : sealOut k h t = ⟨#[]⟩ := by rw [sealOut, if_neg (by omega)]
    have e2 : sealErr k h t = 1 := by rw [sealErr, if_neg a]
    rw [e1, e2]
    clear e1 e2
    have a' : ¬ (k.size : Int) = 8 := by omega
    go_enter Tryz.func44, Tryz.ntmps44
    go_wp2
    go_ret2
    exact ⟨rfl, Below.refl _ _⟩

theorem again_test (k h s : ByteArray) (c : 8 ≤ s.size) : ((str (sealL k.data.toList h.data.toList (veil k.data.toList (s.data.toList.take (s.size - 8))))).toList == s.toList) = decide (opensL k.data.toList h.data.toList s.data.toList) := by
  rw [Bool.eq_iff_iff, beq_iff_eq, decide_eq_true_eq, ByteArray.toList_eq, ByteArray.toList_eq, str_toList, ← again_iff _ _ _ (by rw [len_list]; exact c), len_list]

set_option maxRecDepth 100000 in
set_option maxHeartbeats 400000 in
theorem refUnseal_yes (k h s : ByteArray) (w : World) (a : k.size = 8) (b : h.size = 7) (c : 8 ≤ s.size) (d : s.size ≤ 48) (f : opensL k.data.toList h.data.toList s.data.toList) :
    Calls Tryz.prog 17 #[.string k, .string h, .string s] w fun e w' => e = .returned (.tuple #[.string (str (veil k.data.toList (s.data.toList.take (s.size - 8)))), .int .i64 0]) ∧ Below w.heap.size w w' := by
  have a' : (k.size : Int) = 8 := by omega
  have b' : (h.size : Int) = 7 := by omega
  have hq := again_test k h s c
  rw [decide_eq_true f] at hq
  clear f
  obtain ⟨n, hn⟩ : ∃ n, s.size = n + 8 := ⟨s.size - 8, by omega⟩
  have hsub : s.size - 8 = n := by omega
  rw [hsub] at hq ⊢
  have hn' : (s.size : Int) = (n : Int) + 8 := by omega
  have hel := ext_take s n
  have hes : (s.extract 0 n).size = n := by rw [← len_list, hel, List.length_take, len_list]; omega
  obtain ⟨m, hm⟩ : ∃ m, m = str (maskL k.data.toList n) := ⟨_, rfl⟩
  have hms : m.size = n := by rw [hm, str_maskL_size]
  have h1 : ∀ w, Calls Tryz.prog 42 #[.string k, .int .i64 n] w fun e w' => e = .returned (.string m) ∧ Below w.heap.size w w' := by
    intro w; rw [hm]; exact mask_any k n w a (by omega)
  obtain ⟨t, ht⟩ : ∃ t, t = str (veil k.data.toList (s.data.toList.take n)) := ⟨_, rfl⟩
  have hts : t.size = n := by rw [ht, str_veil_size, ← hel, len_list, hes]
  have h2 : ∀ w, Calls Tryz.prog 43 #[.string (s.extract 0 n), .string m] w fun e w' => e = .returned (.string t) ∧ Below w.heap.size w w' := by
    intro w
    have := xored_any (s.extract 0 n) m w (by rw [hes, hms]) (by omega)
    have e := xor_mask k (s.extract 0 n)
    rw [hes] at e
    rw [hm, hes, e, hel, ← ht, ← hm] at this
    exact this
  have h3 := fun w => refSeal_ok k h t w a b (by omega)
  have htl : t.data.toList = veil k.data.toList (s.data.toList.take n) := by rw [ht, str_toList]
  rw [htl] at h3
  rw [← ht]
  clear hm ht hms hel hes hts htl hsub
  go_enter Tryz.func17, Tryz.ntmps17
  go_wp2_with (first | (go_at_call 42; refine (h1 _).mono ?_; rintro e w1 ⟨rfl, hb1⟩) | (go_at_call 43; refine (h2 _).mono ?_; rintro e w2 ⟨rfl, hb2⟩) | (go_at_call 44; refine (h3 _).mono ?_; rintro e w3 ⟨rfl, hb3⟩))
  go_ret2
  exact ⟨rfl, below_tr (below_tr hb1 hb2) hb3⟩

set_option maxRecDepth 100000 in
set_option maxHeartbeats 400000 in
theorem refUnseal_no (k h s : ByteArray) (w : World) (a : k.size = 8) (b : h.size = 7) (c : 8 ≤ s.size) (d : s.size ≤ 48) (f : ¬ opensL k.data.toList h.data.toList s.data.toList) :
    Calls Tryz.prog 17 #[.string k, .string h, .string s] w fun e w' => e = .returned (.tuple #[.string ⟨#[]⟩, .int .i64 5]) ∧ Below w.heap.size w w' := by
  have a' : (k.size : Int) = 8 := by omega
  have b' : (h.size : Int) = 7 := by omega
  have hq := again_test k h s c
  rw [decide_eq_false f] at hq
  clear f
  obtain ⟨n, hn⟩ : ∃ n, s.size = n + 8 := ⟨s.size - 8, by omega⟩
  have hsub : s.size - 8 = n := by omega
  rw [hsub] at hq
  have hn' : (s.size : Int) = (n : Int) + 8 := by omega
  have hel := ext_take s n
  have hes : (s.extract 0 n).size = n := by rw [← len_list, hel, List.length_take, len_list]; omega
  obtain ⟨m, hm⟩ : ∃ m, m = str (maskL k.data.toList n) := ⟨_, rfl⟩
  have hms : m.size = n := by rw [hm, str_maskL_size]
  have h1 : ∀ w, Calls Tryz.prog 42 #[.string k, .int .i64 n] w fun e w' => e = .returned (.string m) ∧ Below w.heap.size w w' := by
    intro w; rw [hm]; exact mask_any k n w a (by omega)
  obtain ⟨t, ht⟩ : ∃ t, t = str (veil k.data.toList (s.data.toList.take n)) := ⟨_, rfl⟩
  have hts : t.size = n := by rw [ht, str_veil_size, ← hel, len_list, hes]
  have h2 : ∀ w, Calls Tryz.prog 43 #[.string (s.extract 0 n), .string m] w fun e w' => e = .returned (.string t) ∧ Below w.heap.size w w' := by
    intro w
    have := xored_any (s.extract 0 n) m w (by rw [hes, hms]) (by omega)
    have e := xor_mask k (s.extract 0 n)
    rw [hes] at e
    rw [hm, hes, e, hel, ← ht, ← hm] at this
    exact this
  have h3 := fun w => refSeal_ok k h t w a b (by omega)
  have htl : t.data.toList = veil k.data.toList (s.data.toList.take n) := by rw [ht, str_toList]
  rw [htl] at h3

  clear hm ht hms hel hes hts htl hsub
  go_enter Tryz.func17, Tryz.ntmps17
  go_wp2_with (first | (go_at_call 42; refine (h1 _).mono ?_; rintro e w1 ⟨rfl, hb1⟩) | (go_at_call 43; refine (h2 _).mono ?_; rintro e w2 ⟨rfl, hb2⟩) | (go_at_call 44; refine (h3 _).mono ?_; rintro e w3 ⟨rfl, hb3⟩))
  go_ret2
  exact ⟨rfl, below_tr (below_tr hb1 hb2) hb3⟩

set_option maxRecDepth 100000 in
set_option maxHeartbeats 400000 in
theorem refUnseal_any (k h s : ByteArray) (w : World) (hk : k.size ≤ maxLen) (hh : h.size ≤ maxLen) (hs : s.size ≤ maxLen) :
    Calls Tryz.prog 17 #[.string k, .string h, .string s] w fun e w' => e = .returned (.tuple #[.string (unOut k h s), .int .i64 (unErr k h s)]) ∧ Below w.heap.size w w' := by
  by_cases a : k.size = 8
  · have a' : (k.size : Int) = 8 := by omega
    by_cases b : h.size = 7
    · have b' : (h.size : Int) = 7 := by omega
      by_cases c : 8 ≤ s.size
      · by_cases d : s.size ≤ 48
        · by_cases f : opensL k.data.toList h.data.toList s.data.toList
          · have e1 : unOut k h s = str (veil k.data.toList (s.data.toList.take (s.size - 8))) := by rw [unOut, if_pos ⟨a, ⟨b, c⟩, d, f⟩]
            have e2 : unErr k h s = 0 := by rw [unErr, if_pos a, if_pos ⟨b, c⟩, if_pos d, if_pos f]
            rw [e1, e2]
            clear e1 e2
            exact refUnseal_yes k h s w a b c d f
          · have e1 : unOut k h s = ⟨#[]⟩ := by rw [unOut, if_neg (fun g => f g.2.2.2)]
            have e2 : unErr k h s = 5 := by rw [unErr, if_pos a, if_pos ⟨b, c⟩, if_pos d, if_neg f]
            rw [e1, e2]
            clear e1 e2
            exact refUnseal_no k h s w a b c d f
        · have e1 : unOut k h s = ⟨#[]⟩ := by rw [unOut, if_neg (fun g => d g.2.2.1)]
          have e2 : unErr k h s = 2 := by rw [unErr, if_pos a, if_pos ⟨b, c⟩, if_neg d]
          rw [e1, e2]
          clear e1 e2
          go_enter Tryz.func17, Tryz.ntmps17
          go_wp2
          go_ret2
          exact ⟨rfl, Below.refl _ _⟩
      · have e1 : unOut k h s = ⟨#[]⟩ := by rw [unOut, if_neg (fun g => c g.2.1.2)]
        have e2 : unErr k h s = 4 := by rw [unErr, if_pos a, if_neg (fun g => c g.2)]
        rw [e1, e2]
        clear e1 e2
        go_enter Tryz.func17, Tryz.ntmps17
        go_wp2
        go_ret2
        exact ⟨rfl, Below.refl _ _⟩
    · have e1 : unOut k h s = ⟨#[]⟩ := by rw [unOut, if_neg (fun g => b g.2.1.1)]
      have e2 : unErr k h s = 4 := by rw [unErr, if_pos a, if_neg (fun g => b g.1)]
      rw [e1, e2]
      clear e1 e2
      have b' : ¬ (h.size : Int) = 7 := by omega
      go_enter Tryz.func17, Tryz.ntmps17
      go_wp2
      go_ret2
      exact ⟨rfl, Below.refl _ _⟩
  · have e1 : unOut k h s = ⟨#[]⟩ := by rw [unOut, if_neg (fun g => a g.1)]
    have e2 : unErr k h s = 1 := by rw [unErr, if_neg a]
    rw [e1, e2]
    clear e1 e2
    have a' : ¬ (k.size : Int) = 8 := by omega
    go_enter Tryz.func17, Tryz.ntmps17
    go_wp2
    go_ret2
    exact ⟨rfl, Below.refl _ _⟩

theorem sealOut_size (k h t : ByteArray) : (sealOut k h t).size ≤ maxLen := by
  unfold sealOut
  split
  · rename_i g
    rw [str_size, sealL_length, len_list]; unfold maxLen; omega
  · unfold maxLen; exact Nat.zero_le _

end Go.Proofs.YtabpkohcimiceaaGreat
