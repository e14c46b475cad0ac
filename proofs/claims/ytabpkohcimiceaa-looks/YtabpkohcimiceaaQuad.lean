import Derived.Test.YtabpkohcimiceaaStir
import Derived.WalkKit
import Derived.WalkSpells
import Derived.WalkLawsBesides
import Derived.Laws.BytesString
namespace Go.Proofs.Ytabpkohcimiceaa
open Go.RowKit
set_option linter.unusedVariables false

theorem or_byte (n : Nat) (c : UInt8) (h : n < 16777216) : bits .or .u32 ((n : Int) * 256) ((c.toNat : Int) % (4294967296 : Int)) = ((n * 256 + c.toNat : Nat) : Int) := by
  have hc := c.toNat_lt
  have e1 : (n : Int) * 256 = ((BitVec.ofNat 32 (n * 256)).toNat : Int) := by rw [BitVec.toNat_ofNat]; omega
  have e2 : (c.toNat : Int) % (4294967296 : Int) = ((BitVec.ofNat 32 c.toNat).toNat : Int) := by rw [BitVec.toNat_ofNat]; omega
  rw [e1, e2, bits_or, BitVec.toNat_or, BitVec.toNat_ofNat, BitVec.toNat_ofNat, Nat.mod_eq_of_lt (by omega), Nat.mod_eq_of_lt (by omega)]
  congr 1
  have := Nat.two_pow_add_eq_or_of_lt (i := 8) (b := c.toNat) (by omega) n
  rw [Nat.mul_comm n 256]; exact this.symm

theorem getD_drop (s : ByteArray) (o k : Nat) (h : o + k < s.size) : (s.data.toList.drop o).getD k 0 = s[o + k] := by
  rw [List.getD_eq_getElem?_getD, List.getElem?_drop, List.getElem?_eq_getElem (by simpa using h)]
  rfl
theorem getD_drop_out (s : ByteArray) (o k : Nat) (h : ¬ o + k < s.size) : (s.data.toList.drop o).getD k 0 = 0 := by
  rw [List.getD_eq_getElem?_getD, List.getElem?_drop, List.getElem?_eq_none (by simpa using h)]
  rfl

set_option maxRecDepth 100000 in
set_option maxHeartbeats 400000 in
theorem number_any (s : ByteArray) (o : Nat) (w : World) (hs : s.size ≤ maxLen) (ho : o ≤ 1000000) :
    Calls Try.prog 108 #[.string s, .int .i64 o] w fun e w' => e = .returned (.int .u32 (u (wd (s.data.toList.drop o)))) ∧ w' = w := by
  unfold maxLen at hs
  unfold u
  go_enter Try.func108, Try.ntmps108
  go_wp2
  go_loop [5, 6] (fun n i => ∃ (k : Nat), k ≤ 4 ∧ n = .int .u32 (wn k (s.data.toList.drop o) : Nat) ∧ i = .int .i64 k) (fun _ i => 4 - (intOf i).toNat)
  case atStart => exact ⟨0, by omega, rfl, rfl⟩
  case round =>
    obtain ⟨k, hk, rfl, rfl⟩ := hrel
    have hn := wn_lt k (s.data.toList.drop o)
    by_cases hlt : k < 4
    · have hn' : wn k (s.data.toList.drop o) < 16777216 := Nat.lt_of_lt_of_le hn (Nat.pow_le_pow_right (n := 256) (i := k) (j := 3) (by omega) (by omega))
      clear hn
      by_cases hin : o + k < s.size
      · go_wp2
        go_round
        case rel => exact ⟨k + 1, by omega, by rw [or_byte _ _ hn', wn, getD_drop s o k hin], by simp⟩
        case measure => simp [intOf]; omega
      · go_wp2
        go_round
        case rel => exact ⟨k + 1, by omega, by rw [wn, getD_drop_out s o k hin]; simp, by simp⟩
        case measure => simp [intOf]; omega
    · obtain rfl : k = 4 := by omega
      go_wp2
      go_ret
      rw [wd_toNat]
      exact ⟨rfl, rfl⟩

theorem conv4 (w : World) (a b c d : Int) :
    (convert 42 9 (.slice (some ⟨w.heap.size, 0, none⟩) 4 4)).run Try.prog (w.alloc (.cells #[.int .u8 a, .int .u8 b, .int .u8 c, .int .u8 d] 5)) =
      .ok (.string (str [UInt8.ofNat a.toNat, UInt8.ofNat b.toNat, UInt8.ofNat c.toNat, UInt8.ofNat d.toNat])) (w.alloc (.cells #[.int .u8 a, .int .u8 b, .int .u8 c, .int .u8 d] 5)) := by
  rw [run_convert_bytes_string _ 42 9 5 _ _ _ Try.underlying42 Try.underlying5 Try.underlying9]
  rw [run_bytesToString (ns := [a, b, c, d])]
  · rfl
  · exact run_loadCells_list (P := Try.prog) _ _ [.int .u8 a, .int .u8 b, .int .u8 c, .int .u8 d] (by
      intro j v hj
      match j, hj with
      | 0, hj | 1, hj | 2, hj | 3, hj => simp at hj; subst hj; simp [Addr.add, go_sem])
theorem conv1 (w : World) (a : Int) :
    (convert 42 9 (.slice (some ⟨w.heap.size, 0, none⟩) 1 1)).run Try.prog (w.alloc (.cells #[.int .u8 a] 5)) =
      .ok (.string (str [UInt8.ofNat a.toNat])) (w.alloc (.cells #[.int .u8 a] 5)) := by
  rw [run_convert_bytes_string _ 42 9 5 _ _ _ Try.underlying42 Try.underlying5 Try.underlying9]
  rw [run_bytesToString (ns := [a])]
  · rfl
  · exact run_loadCells_list (P := Try.prog) _ _ [.int .u8 a] (by
      intro j v hj
      match j, hj with
      | 0, hj => simp at hj; subst hj; simp [Addr.add, go_sem])

set_option maxRecDepth 100000 in
set_option maxHeartbeats 400000 in
theorem text_any (x : W32) (w : World) :
    Calls Try.prog 110 #[.int .u32 (u x)] w fun e w' => e = .returned (.string (str (four x))) ∧ Below w.heap.size w w' := by
  have hx := x.isLt
  have kc := conv4
  unfold u
  go_enter Try.func110, Try.ntmps110
  go_wp2
  go_ret
  refine ⟨?_, (Below.refl _ _).alloc (Nat.le_refl _) _⟩
  show Ending.returned (Value.string (str [_, _, _, _])) = _
  rw [four, ofNat_mod, ofNat_mod, ofNat_mod]

set_option maxRecDepth 100000 in
set_option maxHeartbeats 400000 in
theorem byteOf_any (n : Int) (w : World) (h0 : 0 ≤ n) (hn : n ≤ 1000000000000) :
    Calls Try.prog 100 #[.int .i64 n] w fun e w' => e = .returned (.string (str [UInt8.ofNat n.toNat])) ∧ ∃ c, w' = w.alloc (.cells c 5) := by
  obtain ⟨m, rfl⟩ := Int.eq_ofNat_of_zero_le h0
  have kc := conv1
  go_enter Try.func100, Try.ntmps100
  go_wp2
  go_ret
  refine ⟨?_, _, rfl⟩
  show Ending.returned (Value.string (str [_])) = _
  simp only [ofNat_mod, Int.toNat_natCast]

set_option maxRecDepth 100000 in
set_option maxHeartbeats 400000 in
theorem four_any (x : W32) (w : World) :
    Calls Try.prog 101 #[.int .i64 (u x)] w fun e w' => e = .returned (.string (str (four x))) ∧ ∃ c1 c2 c3 c4, w' = (((w.alloc (.cells c1 5)).alloc (.cells c2 5)).alloc (.cells c3 5)).alloc (.cells c4 5) := by
  have hx := x.isLt
  unfold u
  go_enter Try.func101, Try.ntmps101
  go_wp2_with (go_at_call 100; refine (byteOf_any _ _ (by omega) (by omega)).mono ?_; rintro e w' ⟨rfl, c, rfl⟩)
  go_ret
  refine ⟨?_, _, _, _, _, rfl⟩
  show Ending.returned (Value.string _) = _
  simp only [str_append, ofNat_mod]
  have e : UInt8.ofNat (x.toNat / 16777216 % 256) = UInt8.ofNat (x.toNat / 16777216) := ofNat_mod _
  rfl
end Go.Proofs.Ytabpkohcimiceaa
