import Derived.Test.YtabpkohcimiceabBoxA
import Derived.Deep.OwnRows
namespace Go.Proofs.Ytabpkohcimiceab
set_option maxRecDepth 100000
set_option maxHeartbeats 1000000
open Go.RowKit
set_option linter.unusedVariables false
def partL (l : List UInt8) (a b : Int) : List UInt8 := if 0 ≤ a ∧ a ≤ l.length ∧ 0 ≤ b ∧ b ≤ l.length - a then (l.drop a.toNat).take b.toNat else []
def putL (d : List UInt8) (s : Nat) (b : List UInt8) : List UInt8 := d.take (s * 32) ++ b ++ d.drop (s * 32 + 32)
theorem getD_out (l : List UInt8) (k : Nat) (h : l.length ≤ k) : l.getD k 0 = 0 := by
  rw [List.getD_eq_getElem?_getD, List.getElem?_eq_none h]; rfl
theorem tbyte_any (s : ByteArray) (i : Int) (w : World) (hs : s.size ≤ maxLen) (h0 : 0 ≤ i) :
    Calls Try.prog 63 #[.string s, .int .i64 i] w fun e w' => e = .returned (.int .i64 ((s.data.toList.getD i.toNat 0).toNat : Int)) ∧ w' = w := by
  unfold maxLen at hs
  obtain ⟨k, rfl⟩ := Int.eq_ofNat_of_zero_le h0; rw [Int.toNat_natCast]
  by_cases h : k < s.size
  · rw [getD_at s k h]
    have hI : (k : Int) < (s.size : Int) := by omega
    have hb0 := s[k].toNat_lt
    go_enter Try.func63, Try.ntmps63
    go_wp2; go_ret; exact ⟨rfl, rfl⟩
  · rw [getD_out _ k (by rw [len_list]; omega)]
    have hI : ¬ (k : Int) < (s.size : Int) := by omega
    go_enter Try.func63, Try.ntmps63
    go_wp2; go_ret; exact ⟨rfl, rfl⟩
theorem part_ext (s : ByteArray) (a b : Nat) : s.extract a (a + b) = str ((s.data.toList.drop a).take b) := by
  rw [← str_of (s.extract a (a + b))]
  congr 1
  simp [ByteArray.data_extract]
theorem part_any (s : ByteArray) (a b : Int) (w : World) (hs : s.size ≤ maxLen) :
    Calls Try.prog 65 #[.string s, .int .i64 a, .int .i64 b] w fun e w' => e = .returned (.string (str (partL s.data.toList a b))) ∧ w' = w := by
  unfold maxLen at hs
  have hl := len_list s
  by_cases h1 : a < 0
  · rw [partL, if_neg (by omega)]
    go_enter Try.func65, Try.ntmps65
    go_wp2; go_ret; exact ⟨rfl, rfl⟩
  by_cases h2 : (s.size : Int) < a
  · rw [partL, if_neg (by omega)]
    go_enter Try.func65, Try.ntmps65
    go_wp2; go_ret; exact ⟨rfl, rfl⟩
  by_cases h3 : b < 0
  · rw [partL, if_neg (by omega)]
    go_enter Try.func65, Try.ntmps65
    go_wp2; go_ret; exact ⟨rfl, rfl⟩
  by_cases h4 : (s.size : Int) - a < b
  · rw [partL, if_neg (by omega)]
    go_enter Try.func65, Try.ntmps65
    go_wp2; go_ret; exact ⟨rfl, rfl⟩
  rw [partL, if_pos (by omega)]
  obtain ⟨m, rfl⟩ := Int.eq_ofNat_of_zero_le (show 0 ≤ a by omega)
  obtain ⟨n, rfl⟩ := Int.eq_ofNat_of_zero_le (show 0 ≤ b by omega)
  rw [Int.toNat_natCast, Int.toNat_natCast, ← part_ext]; clear hl
  go_enter Try.func65, Try.ntmps65
  go_wp2; go_ret; exact ⟨rfl, rfl⟩
theorem conv_zeros (w : World) (n : Nat) :
    (convert 76 9 (.slice (some ⟨w.heap.size, 0, none⟩) n n)).run Try.prog (w.alloc (.cells (madeCells #[.int .u8 0] n) 5)) =
      .ok (.string (str (List.replicate n 0))) (w.alloc (.cells (madeCells #[.int .u8 0] n) 5)) := by
  have h := run_convert_bytes_back (P := Try.prog) (w.alloc (.cells (madeCells #[.int .u8 0] n) 5)) 76 9 5 ⟨w.heap.size, 0, none⟩ n (List.replicate n 0) Try.underlying76 Try.underlying5 Try.underlying9 (by
    intro j hj
    rw [List.length_replicate] at hj
    have e : (⟨w.heap.size, 0, none⟩ : Addr).add j = ⟨w.heap.size, j, none⟩ := by
      simp [Addr.add]
      exact fun h => h.symm
    rw [e, World.cell?_alloc_new]
    have h1 : (madeCells #[.int .u8 0] n)[j]? = some (.int .u8 0) := by
      rw [← Array.getElem?_toList, toList_madeCells_one, List.getElem?_replicate]; simp [hj]
    rw [h1, List.getElem_replicate]; rfl)
  rw [List.length_replicate] at h
  exact h
theorem noughts_dev (n : Int) (w : World) (h1 : n ≤ 1000000) :
    Calls Try.prog 77 #[.int .i64 n] w fun e w' => e = .returned (.string (str (List.replicate n.toNat 0))) ∧ (w' = w ∨ ∃ c, w' = w.alloc (.cells c 5)) := by
  obtain ⟨i0, hi0, hz0, hz1, hz2⟩ := info_parts Try.info5
  by_cases hn : n < 0
  · have e : n.toNat = 0 := by omega
    rw [e]
    go_enter Try.func77, Try.ntmps77
    go_wp2; go_ret; exact ⟨rfl, .inl rfl⟩
  obtain ⟨n, rfl⟩ := Int.eq_ofNat_of_zero_le (show 0 ≤ n by omega)
  have kc := conv_zeros w n; rw [Int.toNat_natCast]
  go_enter Try.func77, Try.ntmps77
  go_wp2_with (at_make; refine wpList_make_row _ rfl _ _ 76 rfl 5 i0 (.int .u8 0) Try.underlying76 hi0 hz0 hz1 rfl .i64 .i64 n rfl rfl (by rw [hz2]; omega) (by omega) ?_)
  go_ret; exact ⟨rfl, .inr ⟨_, rfl⟩⟩
theorem isNoughts_any (s : ByteArray) (w : World) (hs : s.size ≤ maxLen) :
    Calls Try.prog 74 #[.string s] w fun e w' => e = .returned (.bool (decide (s.data.toList = List.replicate s.size 0))) ∧ w' = w := by
  unfold maxLen at hs
  go_enter Try.func74, Try.ntmps74
  go_wp2
  go_loopg [3] (s.size + 1) (fun g v wr => ∃ k : Nat, v = .int .i64 k ∧ k ≤ s.size ∧ g + k = s.size + 1 ∧ (∀ j, j < k → s.data.toList.getD j 0 = 0) ∧ wr = w)
  case atStart => exact ⟨0, rfl, by omega, by omega, by intro j h; omega, rfl⟩
  case round =>
    obtain ⟨k, rfl, hk, hg, hz, rfl⟩ := hrel; have HZ : Hid (∀ j, j < k → s.data.toList.getD j 0 = 0) := hz; clear hz
    by_cases hlt : k < s.size
    · have hI : (k : Int) < (s.size : Int) := by omega
      by_cases hb : s[k] = 0
      · have hb' : ((s[k].toNat : Int) == 0) = true := by rw [hb]; rfl
        go_wp2
        go_roundg (gk - 1)
        case measure => omega
        case rel =>
          refine ⟨k + 1, by simp, by omega, by omega, ?_, rfl⟩
          intro j hj
          rcases Nat.lt_or_ge j k with h | h
          · exact HZ.out j h
          · obtain rfl : j = k := by omega
            rw [getD_at s j hlt, hb]
      · have hb' : ((s[k].toNat : Int) == 0) = false := by
          rw [beq_eq_false_iff_ne]; intro h
          exact hb (UInt8.toNat_inj.1 (by show s[k].toNat = 0; omega))
        have e : decide (s.data.toList = List.replicate s.size 0) = false := by
          rw [decide_eq_false_iff_not]; intro h
          apply hb
          rw [← getD_at s k hlt, h, List.getD_eq_getElem?_getD, List.getElem?_replicate]; simp [hlt]
        have HE : Hid (decide (s.data.toList = List.replicate s.size 0) = false) := e; clear e; go_wp2; go_ret; rw [HE.out]; exact ⟨rfl, rfl⟩
    · obtain rfl : k = s.size := by omega
      have e : decide (s.data.toList = List.replicate s.size 0) = true := by
        rw [decide_eq_true_eq]
        apply ext_getD
        · rw [len_list, List.length_replicate]
        · intro j hj
          rw [len_list] at hj
          rw [HZ.out j hj, List.getD_eq_getElem?_getD, List.getElem?_replicate]; simp [hj]
      have HE : Hid (decide (s.data.toList = List.replicate s.size 0) = true) := e; clear e; go_wp2; go_ret; rw [HE.out]; exact ⟨rfl, rfl⟩
theorem devDisk_any (s : ByteArray) (w : World) (hs : s.size ≤ maxLen) :
    Calls Try.prog 53 #[.string s] w fun e w' => e = .returned (.bool (isDiskL s.data.toList)) ∧ w' = w := by
  unfold maxLen at hs
  have hl := len_list s; rw [isDiskL]
  by_cases h1 : s.size < 32
  · rw [decide_eq_false (by omega)]
    have h1' : (s.size : Int) < 32 := by omega
    go_enter Try.func53, Try.ntmps53
    go_wp2; go_ret; exact ⟨rfl, rfl⟩
  have h1' : ¬ (s.size : Int) < 32 := by omega
  by_cases h2 : 1280 < s.size
  · rw [decide_eq_false (by omega)]
    have h2' : (1280 : Int) < (s.size : Int) := by omega
    go_enter Try.func53, Try.ntmps53
    go_wp2; go_ret; exact ⟨rfl, rfl⟩
  have h2' : ¬ (1280 : Int) < (s.size : Int) := by omega
  by_cases h3 : s.size % 32 = 0
  · rw [decide_eq_true (by omega)]
    have h3' : (s.size : Int) % 32 = 0 := by omega
    go_enter Try.func53, Try.ntmps53
    go_wp2; go_ret; exact ⟨rfl, rfl⟩
  · rw [decide_eq_false (by omega)]
    have h3' : ((s.size : Int) % 32 == 0) = false := by rw [beq_eq_false_iff_ne]; omega
    go_enter Try.func53, Try.ntmps53
    go_wp2; go_ret; exact ⟨rfl, rfl⟩
theorem sectors_any (s : ByteArray) (k : Nat) (w : World) (hs : s.size ≤ maxLen) (h : s.size = k * 32) :
    Calls Try.prog 59 #[.string s] w fun e w' => e = .returned (.int .i64 k) ∧ w' = w := by
  unfold maxLen at hs
  go_enter Try.func59, Try.ntmps59
  go_wp2; go_ret; exact ⟨rfl, rfl⟩
theorem partL_sec (l : List UInt8) (n k : Nat) (hl : l.length = k * 32) (h : n < k) : partL l ((n : Int) * 32) 32 = secL l n := by
  rw [partL, if_pos (by omega), secL, show ((n : Int) * 32).toNat = n * 32 by omega]; rfl
theorem secL_out (l : List UInt8) (n k : Nat) (hl : l.length = k * 32) (h : k ≤ n) : secL l n = [] := by
  rw [secL, List.drop_of_length_le (by omega)]; rfl
theorem sector_any (s : ByteArray) (k : Nat) (i : Int) (w : World) (hs : s.size ≤ 100000) (h : s.size = k * 32) (h0 : 0 ≤ i) :
    Calls Try.prog 78 #[.string s, .int .i64 i] w fun e w' => e = .returned (.string (str (secL s.data.toList i.toNat))) ∧ w' = w := by
  obtain ⟨n, rfl⟩ := Int.eq_ofNat_of_zero_le h0; rw [Int.toNat_natCast]
  have c1 := fun w => sectors_any s k w (by unfold maxLen; omega) h
  by_cases hn : n < k
  · have hI : (n : Int) < (k : Int) := by omega
    have c2 := fun w => part_any s ((n : Int) * 32) 32 w (by unfold maxLen; omega)
    rw [partL_sec _ n k (by rw [len_list]; exact h) hn] at c2
    go_enter Try.func78, Try.ntmps78
    go_wp2_with (first | (go_at_call 59; refine (c1 _).mono ?_; rintro e w' ⟨rfl, hw⟩; rw [hw]; clear hw w') | (go_at_call 65; refine (c2 _).mono ?_; rintro e w' ⟨rfl, hw⟩; rw [hw]; clear hw w'))
    go_ret; exact ⟨rfl, rfl⟩
  · have hI : ¬ (n : Int) < (k : Int) := by omega
    rw [secL_out _ n k (by rw [len_list]; exact h) (by omega)]
    go_enter Try.func78, Try.ntmps78
    go_wp2_with (first | (go_at_call 59; refine (c1 _).mono ?_; rintro e w' ⟨rfl, hw⟩; rw [hw]; clear hw w'))
    go_ret; exact ⟨rfl, rfl⟩
theorem put_ext (s b : ByteArray) (n : Nat) : s.extract 0 (n * 32) ++ b ++ s.extract (n * 32 + 32) s.size = str (putL s.data.toList n b.data.toList) := by
  rw [← str_of (s.extract 0 (n * 32) ++ b ++ s.extract (n * 32 + 32) s.size)]
  congr 1
  rw [putL, ByteArray.data_append, ByteArray.data_append, Array.toList_append, Array.toList_append, ext_drop]
  simp [ByteArray.data_extract]
attribute [local go_sem ↓] Go.wp_at_zero Go.wp_at_succ
theorem sideSize_any (n : Nat) (w : World) (h : n ≤ 1000) : Calls Try.prog 86 #[.int .i64 n] w fun e w' => e = .returned (.int .i64 (halfN n)) ∧ w' = w := by
  go_enter Try.func86, Try.ntmps86
  go_wp2; go_ret
  refine ⟨?_, rfl⟩
  show Ending.returned (Value.int .i64 ((40 + 10 * (n : Int) + 32 - 1) / 32)) = _
  rw [show (40 + 10 * (n : Int) + 32 - 1) / 32 = ((halfN n : Nat) : Int) by unfold halfN; omega]
theorem boxNeed_any (n : Nat) (w : World) (h : n ≤ 1000) : Calls Try.prog 73 #[.int .i64 n] w fun e w' => e = .returned (.int .i64 ((1 + 2 * halfN n : Nat) : Int)) ∧ w' = w := by
  have c1 := fun w => sideSize_any n w h
  have hh : halfN n ≤ 1000 := by unfold halfN; omega
  generalize halfN n = q at *
  go_enter Try.func73, Try.ntmps73
  go_wp2_with (go_at_call 86; refine (c1 _).mono ?_; rintro e w' ⟨rfl, hw⟩; rw [hw]; clear hw w')
  go_ret
  refine ⟨?_, rfl⟩
  show Ending.returned (Value.int .i64 (1 + 2 * (q : Int))) = _
  rw [show 1 + 2 * (q : Int) = ((1 + 2 * q : Nat) : Int) by omega]
theorem isWithin_any (n m : Int) (w : World) : Calls Try.prog 92 #[.int .i64 n, .int .i64 m] w fun e w' => e = .returned (.bool (decide (0 ≤ n ∧ n ≤ m))) ∧ w' = w := by
  by_cases h0 : n < 0
  · rw [decide_eq_false (by omega)]
    go_enter Try.func92, Try.ntmps92
    go_wp2; go_ret; exact ⟨rfl, rfl⟩
  by_cases h1 : m < n
  · rw [decide_eq_false (by omega)]
    have h1' : decide (n ≤ m) = false := decide_eq_false (by omega)
    go_enter Try.func92, Try.ntmps92
    go_wp2; go_ret; exact ⟨rfl, rfl⟩
  · rw [decide_eq_true (by omega)]
    go_enter Try.func92, Try.ntmps92
    go_wp2; go_ret; exact ⟨rfl, rfl⟩
theorem conv2 (w : World) (a b : Int) :
    (convert 76 9 (.slice (some ⟨w.heap.size, 0, none⟩) 2 2)).run Try.prog (w.alloc (.cells #[.int .u8 a, .int .u8 b] 5)) =
      .ok (.string (str [UInt8.ofNat a.toNat, UInt8.ofNat b.toNat])) (w.alloc (.cells #[.int .u8 a, .int .u8 b] 5)) := by
  rw [run_convert_bytes_string _ 76 9 5 _ _ _ Try.underlying76 Try.underlying5 Try.underlying9]
  rw [run_bytesToString (ns := [a, b])]
  · rfl
  · exact run_loadCells_list (P := Try.prog) _ _ [.int .u8 a, .int .u8 b] (by
      intro j v hj
      match j, hj with
      | 0, hj | 1, hj => simp at hj; subst hj; simp [Addr.add, go_sem])
theorem conv2d (w : World) (a b : Int) :
    (convert 76 9 (.slice (some ⟨w.heap.size, 0, none⟩) 2 2)).run Try.prog (w.alloc (.cells #[.int .u8 a, .int .u8 b] 5)).drew =
      .ok (.string (str [UInt8.ofNat a.toNat, UInt8.ofNat b.toNat])) (w.alloc (.cells #[.int .u8 a, .int .u8 b] 5)).drew := by
  rw [run_convert_bytes_string _ 76 9 5 _ _ _ Try.underlying76 Try.underlying5 Try.underlying9]
  rw [run_bytesToString (ns := [a, b])]
  · rfl
  · exact run_loadCells_list (P := Try.prog) _ _ [.int .u8 a, .int .u8 b] (by
      intro j v hj
      match j, hj with
      | 0, hj | 1, hj => simp at hj; subst hj; simp [Addr.add, go_sem])
theorem wrap_u8 (n : Nat) (h : n ≤ 255) : IntKind.u8.wrap (n : Int) = (n : Int) := by
  show (n : Int) % 2 ^ 8 = _
  omega
theorem wrap_u32 (n : Nat) (h : n < 4294967296) : IntKind.u32.wrap (n : Int) = (n : Int) := by
  show (n : Int) % 2 ^ 32 = _
  omega
theorem conv8 (w : World) (a b c d a' b' c' d' : Int) :
    (convert 76 9 (.slice (some ⟨w.heap.size, 0, none⟩) 8 8)).run Try.prog (w.alloc (.cells #[.int .u8 a, .int .u8 b, .int .u8 c, .int .u8 d, .int .u8 a', .int .u8 b', .int .u8 c', .int .u8 d'] 5)) =
      .ok (.string (str [UInt8.ofNat a.toNat, UInt8.ofNat b.toNat, UInt8.ofNat c.toNat, UInt8.ofNat d.toNat, UInt8.ofNat a'.toNat, UInt8.ofNat b'.toNat, UInt8.ofNat c'.toNat, UInt8.ofNat d'.toNat])) (w.alloc (.cells #[.int .u8 a, .int .u8 b, .int .u8 c, .int .u8 d, .int .u8 a', .int .u8 b', .int .u8 c', .int .u8 d'] 5)) := by
  rw [run_convert_bytes_string _ 76 9 5 _ _ _ Try.underlying76 Try.underlying5 Try.underlying9]
  rw [run_bytesToString (ns := [a, b, c, d, a', b', c', d'])]
  · rfl
  · exact run_loadCells_list (P := Try.prog) _ _ [.int .u8 a, .int .u8 b, .int .u8 c, .int .u8 d, .int .u8 a', .int .u8 b', .int .u8 c', .int .u8 d'] (by
      intro j v hj
      match j, hj with
      | 0, hj | 1, hj | 2, hj | 3, hj | 4, hj | 5, hj | 6, hj | 7, hj => simp at hj; subst hj; simp [Addr.add, go_sem])
theorem text_nat (n : Nat) (w : World) (h : n < 4294967296) :
    Calls Try.prog 80 #[.int .u32 n] w fun e w' => e = .returned (.string (str (fourN n))) ∧ ∃ c, w' = w.alloc (.cells c 5) := by
  have kc := conv4; have hx := (BitVec.ofNat 32 n).isLt
  have e : (BitVec.ofNat 32 n).toNat = n := by rw [BitVec.toNat_ofNat]; omega
  go_enter Try.func80, Try.ntmps80
  go_wp2; go_ret
  refine ⟨?_, _, rfl⟩
  show Ending.returned (Value.string (str [_, _, _, _])) = _
  rw [fourN, four, e, ofNat_mod, ofNat_mod, ofNat_mod]
theorem text_int (x : Int) (w : World) (h0 : 0 ≤ x) (h : x < 4294967296) :
    Calls Try.prog 80 #[.int .u32 x] w fun e w' => e = .returned (.string (str (fourN x.toNat))) ∧ ∃ c, w' = w.alloc (.cells c 5) := by
  obtain ⟨n, rfl⟩ := Int.eq_ofNat_of_zero_le h0
  exact text_nat n w (by omega)
theorem str_fourN_size (n : Nat) : (str (fourN n)).size = 4 := rfl
theorem pawl_size3 (b c : UInt8) : ((⟨#[80, 65, 87, 76]⟩ : ByteArray) ++ str [b, c]).size = 6 := by
  rw [← len_list, ByteArray.data_append]; simp [str]
theorem pawl_list3 (b c : UInt8) : ((⟨#[80, 65, 87, 76]⟩ : ByteArray) ++ str [b, c]).data.toList = [80, 65, 87, 76, b, c] := by
  rw [ByteArray.data_append]; simp [str]
theorem str_two_size (a b : UInt8) : (str [a, b]).size = 2 := rfl
attribute [local go_sem] str_two_size str_one_size
theorem first_any (c l : Nat) (w : World) (h0 : c ≤ 255) (h1 : l ≤ 255) :
    Calls Try.prog 84 #[.int .i64 c, .int .i64 l] w fun e w' => e = .returned (.string (str (topL c l))) ∧ Below w.heap.size w w' := by
  have kc := conv2; have z2 := pawl_size3 (UInt8.ofNat c) (UInt8.ofNat l)
  have c2 := fun w => noughts_dev 26 w (by omega)
  have z3 : (str (List.replicate (26 : Int).toNat 0)).size = 26 := by simp [str_size]
  have e3 : Hid ((⟨#[80, 65, 87, 76]⟩ : ByteArray) ++ str [UInt8.ofNat c, UInt8.ofNat l] ++ str (List.replicate (26 : Int).toNat 0) = str (topL c l)) := by
    show _ = _
    conv => lhs; rw [← str_of ((⟨#[80, 65, 87, 76]⟩ : ByteArray) ++ str [UInt8.ofNat c, UInt8.ofNat l])]
    rw [str_append, pawl_list3]; rfl
  generalize str (List.replicate (26 : Int).toNat 0) = z at *
  go_enter Try.func84, Try.ntmps84
  go_wp2_with (first | (go_at_call 77; refine (c2 _).mono ?_; rintro e w1 ⟨rfl, hw⟩))
  go_ret
  refine ⟨?_, ?_⟩
  · rw [← e3.out]; rfl
  · rcases hw with rfl | ⟨cc, rfl⟩
    · exact (Below.refl _ _).alloc (Nat.le_refl _) _
    · exact ((Below.refl _ _).alloc (Nat.le_refl _) _).alloc (by simp) _
end Go.Proofs.Ytabpkohcimiceab
