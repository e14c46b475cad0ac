import Derived.Test.YtabpkohcimiceabSeal
import Derived.Test.YtabpkohcimiceabAgree
namespace Go.Proofs.Ytabpkohcimiceab
set_option maxRecDepth 100000
set_option maxHeartbeats 1000000
open Go.RowKit
set_option linter.unusedVariables false
attribute [local go_sem ↓] Go.wp_at_zero Go.wp_at_succ
theorem rep_size (n : Nat) : (str (List.replicate n 0)).size = n := by rw [str_size, List.length_replicate]
theorem noughts_any (n : Int) (w : World) (h0 : 1 ≤ n) (h1 : n ≤ 1000000) :
    Calls Try.prog 33 #[.int .i64 n] w fun e w' => e = .returned (.string (str (List.replicate n.toNat 0))) ∧ w' = w := by
  obtain ⟨n, rfl⟩ := Int.eq_ofNat_of_zero_le (show 0 ≤ n by omega)
  go_enter Try.func33, Try.ntmps33
  go_wp2
  go_loopg [3] 1000000 (fun g v wr => ∃ k : Nat, ∃ m : ByteArray, v = .string m ∧ 1 ≤ k ∧ k ≤ 2000000 ∧ 1000001 ≤ g + k ∧ m.size = k ∧ m = str (List.replicate k 0) ∧ wr = w)
  case atStart => exact ⟨1, _, rfl, by omega, by omega, by omega, rfl, rfl, rfl⟩
  case round =>
    obtain ⟨k, m, rfl, hk1, hk2, hg, hms, hm, rfl⟩ := hrel; have HM : Hid (m = str (List.replicate k 0)) := hm; clear hm
    by_cases hlt : k < n
    · go_wp2
      go_roundg (1000001 - (k + k))
      case measure => omega
      case rel =>
        refine ⟨k + k, _, rfl, by omega, by omega, by omega, ?_, ?_, rfl⟩
        · rw [HM.out, str_append, str_size]; simp
        · rw [HM.out, str_append, List.replicate_append_replicate]
    · go_wp2; go_ret
      refine ⟨?_, rfl⟩
      show Ending.returned (Value.string (m.extract 0 n)) = _
      rw [← str_of (m.extract 0 n), ext_take, HM.out, str_toList, List.take_replicate, Nat.min_eq_left (by omega)]
      simp
def sizedL (l : List UInt8) (n : Nat) : List UInt8 := l.take n ++ List.replicate (n - l.length) 0
theorem sizedL_length (l : List UInt8) (n : Nat) : (sizedL l n).length = n := by simp [sizedL]; omega
theorem sized_any (s : ByteArray) (n : Int) (w : World) (h0 : 0 ≤ n) (h1 : n ≤ 1000000) (hs : s.size ≤ maxLen) :
    Calls Try.prog 52 #[.string s, .int .i64 n] w fun e w' => e = .returned (.string (str (sizedL s.data.toList n.toNat))) ∧ w' = w := by
  obtain ⟨n, rfl⟩ := Int.eq_ofNat_of_zero_le h0
  unfold maxLen at hs
  by_cases h : n ≤ s.size
  · go_enter Try.func52, Try.ntmps52
    go_wp2; go_ret
    refine ⟨?_, rfl⟩
    show Ending.returned (Value.string (s.extract 0 n)) = _
    rw [← str_of (s.extract 0 n), ext_take, sizedL, len_list, Int.toNat_natCast, show n - s.size = 0 by omega]
    simp
  · obtain ⟨m, hm⟩ : ∃ m : Nat, (n : Int) - s.size = (m : Int) := ⟨n - s.size, by omega⟩
    have hrs := rep_size m
    have hno := fun w => noughts_any (m : Int) w (by omega) (by omega)
    rw [Int.toNat_natCast] at hno
    go_enter Try.func52, Try.ntmps52
    go_wp2_with (go_at_call 33; refine (hno _).mono ?_; rintro e w' ⟨rfl, rfl⟩)
    go_ret
    refine ⟨?_, rfl⟩
    show Ending.returned (Value.string (s ++ str (List.replicate m 0))) = _
    have e : s ++ str (List.replicate m 0) = str (sizedL s.data.toList n) := by
      conv => lhs; rw [← str_of s]
      rw [str_append, sizedL, len_list, List.take_of_length_le (by rw [len_list]; omega), show n - s.size = m by omega]
    rw [e, Int.toNat_natCast]
theorem cutTo_any (s : ByteArray) (n : Int) (w : World) (h0 : 0 ≤ n) (h1 : n ≤ 1000000) (hs : s.size ≤ maxLen) :
    Calls Try.prog 23 #[.string s, .int .i64 n] w fun e w' => e = .returned (.string (str (s.data.toList.take n.toNat))) ∧ w' = w := by
  obtain ⟨n, rfl⟩ := Int.eq_ofNat_of_zero_le h0
  unfold maxLen at hs
  by_cases h : n < s.size
  · go_enter Try.func23, Try.ntmps23
    go_wp2; go_ret
    refine ⟨?_, rfl⟩
    show Ending.returned (Value.string (s.extract 0 n)) = _
    rw [← str_of (s.extract 0 n), ext_take, Int.toNat_natCast]
  · go_enter Try.func23, Try.ntmps23
    go_wp2; go_ret
    refine ⟨?_, rfl⟩
    show Ending.returned (Value.string s) = _
    rw [Int.toNat_natCast, List.take_of_length_le (by rw [len_list]; omega), str_of]
attribute [local go_sem] wrap_ub ofNat_ub str_one_size
theorem turned (all : ByteArray) (i : Nat) (d : UInt8) (h : i < all.size) : all.extract 0 i ++ str [d] ++ all.extract (i + 1) all.size = str (all.data.toList.set i d) := by
  rw [← str_of (all.extract 0 i), ← str_of (all.extract (i + 1) all.size), ext_take, ext_drop, str_append, str_append, flip_at _ _ _ (by rw [len_list]; exact h)]
  simp
end Go.Proofs.Ytabpkohcimiceab
