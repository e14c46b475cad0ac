import Derived.Test.YtabpkohcimiceaaBoxS
import Derived.Test.YtabpkohcimiceaaTextC
import Derived.WalkKit
import Derived.WalkSpells
import Derived.WalkLawsBesides
import Derived.Deep.RegionHeld3
import Derived.Deep.DeepMust
import Derived.Deep.DrawnRows
import Derived.Deep.DeepCutAuto
namespace Go.Proofs.Ytabpkohcimiceaa
open Go.RowKit
set_option linter.unusedVariables false
attribute [local go_sem ↓] Go.wp_at_zero Go.wp_at_succ

/-! ### Package boxes: sizes, sides -/
set_option maxRecDepth 100000 in
set_option maxHeartbeats 400000 in
theorem sideSize_any (n : Nat) (w : World) (h : n ≤ 1000) : Calls Try.prog 121 #[.int .i64 n] w fun e w' => e = .returned (.int .i64 (halfN n)) ∧ w' = w := by
  go_enter Try.func121, Try.ntmps121
  go_wp2
  go_ret
  refine ⟨?_, rfl⟩
  show Ending.returned (Value.int .i64 ((40 + 10 * (n : Int) + 32 - 1) / 32)) = _
  rw [show (40 + 10 * (n : Int) + 32 - 1) / 32 = ((halfN n : Nat) : Int) by unfold halfN; omega]
set_option maxRecDepth 100000 in
set_option maxHeartbeats 400000 in
theorem boxNeed_any (n : Nat) (w : World) (h : n ≤ 1000) : Calls Try.prog 72 #[.int .i64 n] w fun e w' => e = .returned (.int .i64 ((1 + 2 * halfN n : Nat) : Int)) ∧ w' = w := by
  have c1 := fun w => sideSize_any n w h
  have hh : halfN n ≤ 1000 := by unfold halfN; omega
  generalize halfN n = q at *
  go_enter Try.func72, Try.ntmps72
  go_wp2_with (go_at_call 121; refine (c1 _).mono ?_; rintro e w' ⟨rfl, hw⟩; rw [hw]; clear hw w')
  go_ret
  refine ⟨?_, rfl⟩
  show Ending.returned (Value.int .i64 (1 + 2 * (q : Int))) = _
  rw [show 1 + 2 * (q : Int) = ((1 + 2 * q : Nat) : Int) by omega]
set_option maxRecDepth 100000 in
set_option maxHeartbeats 400000 in
theorem isWithin_any (n m : Int) (w : World) : Calls Try.prog 71 #[.int .i64 n, .int .i64 m] w fun e w' => e = .returned (.bool (decide (0 ≤ n ∧ n ≤ m))) ∧ w' = w := by
  by_cases h0 : n < 0
  · rw [decide_eq_false (by omega)]
    go_enter Try.func71, Try.ntmps71
    go_wp2
    go_ret
    exact ⟨rfl, rfl⟩
  by_cases h1 : m < n
  · rw [decide_eq_false (by omega)]
    have h1' : decide (n ≤ m) = false := decide_eq_false (by omega)
    go_enter Try.func71, Try.ntmps71
    go_wp2
    go_ret
    exact ⟨rfl, rfl⟩
  · rw [decide_eq_true (by omega)]
    go_enter Try.func71, Try.ntmps71
    go_wp2
    go_ret
    exact ⟨rfl, rfl⟩
set_option maxRecDepth 100000 in
set_option maxHeartbeats 400000 in
theorem pawlNeed_any (n : Int) (w : World) : Calls Try.prog 33 #[.int .i64 n] w fun e w' => e = .returned (.tuple #[.int .i64 (needR n).1, .int .i64 (needR n).2]) ∧ w' = w := by
  have c1 := fun w => isWithin_any n 30 w
  by_cases h : 0 ≤ n ∧ n ≤ 30
  · rw [needR, if_pos h]
    rw [decide_eq_true h] at c1
    obtain ⟨m, rfl⟩ := Int.eq_ofNat_of_zero_le h.1
    have c2 := fun w => boxNeed_any m w (by omega)
    rw [Int.toNat_natCast]
    generalize halfN m = q at *
    clear h
    go_enter Try.func33, Try.ntmps33
    go_wp2_with (first | (go_at_call 71; refine (c1 _).mono ?_; rintro e w' ⟨rfl, hw⟩; rw [hw]; clear hw w') | (go_at_call 72; refine (c2 _).mono ?_; rintro e w' ⟨rfl, hw⟩; rw [hw]; clear hw w'))
    go_ret2
    refine ⟨?_, rfl⟩
    show Ending.returned (Value.tuple #[Value.int .i64 ((1 + 2 * q : Nat) : Int), _]) = _
    rw [show ((1 + 2 * q : Nat) : Int) = 1 + 2 * (q : Int) by omega]
    rfl
  · rw [needR, if_neg h]
    rw [decide_eq_false h] at c1
    go_enter Try.func33, Try.ntmps33
    go_wp2_with (first | (go_at_call 71; refine (c1 _).mono ?_; rintro e w' ⟨rfl, hw⟩; rw [hw]; clear hw w'))
    go_ret2
    exact ⟨rfl, rfl⟩

theorem conv2 (w : World) (a b : Int) :
    (convert 42 9 (.slice (some ⟨w.heap.size, 0, none⟩) 2 2)).run Try.prog (w.alloc (.cells #[.int .u8 a, .int .u8 b] 5)) =
      .ok (.string (str [UInt8.ofNat a.toNat, UInt8.ofNat b.toNat])) (w.alloc (.cells #[.int .u8 a, .int .u8 b] 5)) := by
  rw [run_convert_bytes_string _ 42 9 5 _ _ _ Try.underlying42 Try.underlying5 Try.underlying9]
  rw [run_bytesToString (ns := [a, b])]
  · rfl
  · exact run_loadCells_list (P := Try.prog) _ _ [.int .u8 a, .int .u8 b] (by
      intro j v hj
      match j, hj with
      | 0, hj | 1, hj => simp at hj; subst hj; simp [Addr.add, go_sem])
theorem conv2d (w : World) (a b : Int) :
    (convert 42 9 (.slice (some ⟨w.heap.size, 0, none⟩) 2 2)).run Try.prog (w.alloc (.cells #[.int .u8 a, .int .u8 b] 5)).drew =
      .ok (.string (str [UInt8.ofNat a.toNat, UInt8.ofNat b.toNat])) (w.alloc (.cells #[.int .u8 a, .int .u8 b] 5)).drew := by
  rw [run_convert_bytes_string _ 42 9 5 _ _ _ Try.underlying42 Try.underlying5 Try.underlying9]
  rw [run_bytesToString (ns := [a, b])]
  · rfl
  · exact run_loadCells_list (P := Try.prog) _ _ [.int .u8 a, .int .u8 b] (by
      intro j v hj
      match j, hj with
      | 0, hj | 1, hj => simp at hj; subst hj; simp [Addr.add, go_sem])
theorem wrap_u8 (n : Nat) (h : n ≤ 255) : IntKind.u8.wrap (n : Int) = (n : Int) := by
  show (n : Int) % 2 ^ 8 = _
  omega
theorem wrap_u32 (n : Nat) (h : n < 4294967296) : IntKind.u32.wrap (n : Int) = (n : Int) := by
  show (n : Int) % 2 ^ 32 = _
  omega
theorem conv8 (w : World) (a b c d a' b' c' d' : Int) :
    (convert 42 9 (.slice (some ⟨w.heap.size, 0, none⟩) 8 8)).run Try.prog (w.alloc (.cells #[.int .u8 a, .int .u8 b, .int .u8 c, .int .u8 d, .int .u8 a', .int .u8 b', .int .u8 c', .int .u8 d'] 5)) =
      .ok (.string (str [UInt8.ofNat a.toNat, UInt8.ofNat b.toNat, UInt8.ofNat c.toNat, UInt8.ofNat d.toNat, UInt8.ofNat a'.toNat, UInt8.ofNat b'.toNat, UInt8.ofNat c'.toNat, UInt8.ofNat d'.toNat])) (w.alloc (.cells #[.int .u8 a, .int .u8 b, .int .u8 c, .int .u8 d, .int .u8 a', .int .u8 b', .int .u8 c', .int .u8 d'] 5)) := by
  rw [run_convert_bytes_string _ 42 9 5 _ _ _ Try.underlying42 Try.underlying5 Try.underlying9]
  rw [run_bytesToString (ns := [a, b, c, d, a', b', c', d'])]
  · rfl
  · exact run_loadCells_list (P := Try.prog) _ _ [.int .u8 a, .int .u8 b, .int .u8 c, .int .u8 d, .int .u8 a', .int .u8 b', .int .u8 c', .int .u8 d'] (by
      intro j v hj
      match j, hj with
      | 0, hj | 1, hj | 2, hj | 3, hj | 4, hj | 5, hj | 6, hj | 7, hj => simp at hj; subst hj; simp [Addr.add, go_sem])

set_option maxRecDepth 100000 in
set_option maxHeartbeats 400000 in
theorem text_nat (n : Nat) (w : World) (h : n < 4294967296) :
    Calls Try.prog 110 #[.int .u32 n] w fun e w' => e = .returned (.string (str (fourN n))) ∧ ∃ c, w' = w.alloc (.cells c 5) := by
  have kc := conv4
  have hx := (BitVec.ofNat 32 n).isLt
  have e : (BitVec.ofNat 32 n).toNat = n := by rw [BitVec.toNat_ofNat]; omega
  go_enter Try.func110, Try.ntmps110
  go_wp2
  go_ret
  refine ⟨?_, _, rfl⟩
  show Ending.returned (Value.string (str [_, _, _, _])) = _
  rw [fourN, four, e, ofNat_mod, ofNat_mod, ofNat_mod]

theorem text_int (x : Int) (w : World) (h0 : 0 ≤ x) (h : x < 4294967296) :
    Calls Try.prog 110 #[.int .u32 x] w fun e w' => e = .returned (.string (str (fourN x.toNat))) ∧ ∃ c, w' = w.alloc (.cells c 5) := by
  obtain ⟨n, rfl⟩ := Int.eq_ofNat_of_zero_le h0
  exact text_nat n w (by omega)
theorem str_fourN_size (n : Nat) : (str (fourN n)).size = 4 := rfl
theorem pawl_size3 (b c : UInt8) : ((⟨#[80, 65, 87, 76]⟩ : ByteArray) ++ str [b, c]).size = 6 := by
  rw [← len_list, ByteArray.data_append]; simp [str]
theorem pawl_list3 (b c : UInt8) : ((⟨#[80, 65, 87, 76]⟩ : ByteArray) ++ str [b, c]).data.toList = [80, 65, 87, 76, b, c] := by
  rw [ByteArray.data_append]; simp [str]
theorem str_two_size (a b : UInt8) : (str [a, b]).size = 2 := rfl
attribute [local go_sem] str_two_size str_one_size

set_option maxRecDepth 100000 in
set_option maxHeartbeats 400000 in
theorem first_any (c l : Nat) (w : World) (h0 : c ≤ 255) (h1 : l ≤ 255) :
    Calls Try.prog 150 #[.int .i64 c, .int .i64 l] w fun e w' => e = .returned (.string (str (topL c l))) ∧ Below w.heap.size w w' := by
  have kc := conv2
  have z2 := pawl_size3 (UInt8.ofNat c) (UInt8.ofNat l)
  have c2 := fun w => noughts_dev 26 w (by omega)
  have z3 : (str (List.replicate (26 : Int).toNat 0)).size = 26 := by simp [str_size]
  have e3 : Hid ((⟨#[80, 65, 87, 76]⟩ : ByteArray) ++ str [UInt8.ofNat c, UInt8.ofNat l] ++ str (List.replicate (26 : Int).toNat 0) = str (topL c l)) := by
    show _ = _
    conv => lhs; rw [← str_of ((⟨#[80, 65, 87, 76]⟩ : ByteArray) ++ str [UInt8.ofNat c, UInt8.ofNat l])]
    rw [str_append, pawl_list3]; rfl
  generalize str (List.replicate (26 : Int).toNat 0) = z at *
  go_enter Try.func150, Try.ntmps150
  go_wp2_with (first | (go_at_call 130; refine (c2 _).mono ?_; rintro e w1 ⟨rfl, hw⟩))
  go_ret
  refine ⟨?_, ?_⟩
  · rw [← e3.out]; rfl
  · rcases hw with rfl | ⟨cc, rfl⟩
    · exact (Below.refl _ _).alloc (Nat.le_refl _) _
    · exact ((Below.refl _ _).alloc (Nat.le_refl _) _).alloc (by simp) _
end Go.Proofs.Ytabpkohcimiceaa
