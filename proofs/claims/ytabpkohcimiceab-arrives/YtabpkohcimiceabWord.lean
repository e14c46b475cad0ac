import Derived.Test.YtabpkohcimiceabGrund
import Derived.Test.YtabpkohcimiceabRows
import Derived.WalkSpells
import Derived.WalkLawsBesides
import Derived.Laws.BytesString
namespace Go.Proofs.Ytabpkohcimiceab
set_option maxRecDepth 100000
set_option maxHeartbeats 1000000
open Go.RowKit
set_option linter.unusedVariables false
theorem rnd_fst (x y : W32) (k : Nat) : bits .xor .u32 (bits .or .u32 (((x.toNat : Int) + (y.toNat : Int) + ((k : Int) + 1)) % 4294967296 * 8192 % 4294967296) (((x.toNat : Int) + (y.toNat : Int) + ((k : Int) + 1)) % 4294967296 / 524288)) (bits .xor .u32 (bits .or .u32 ((y.toNat : Int) * 128 % 4294967296) ((y.toNat : Int) / 33554432)) (((x.toNat : Int) + (y.toNat : Int) + ((k : Int) + 1)) % 4294967296)) = ((rnd (k + 1) (x, y)).1.toNat : Int) := by
  rw [add3_mod, shl13, shr19, shl7, shr25, bits_or, bits_or, bits_xor, bits_xor]; rfl
theorem rnd_snd (x y : W32) (k : Nat) : (bits .xor .u32 (bits .or .u32 ((y.toNat : Int) * 128 % 4294967296) ((y.toNat : Int) / 33554432)) (((x.toNat : Int) + (y.toNat : Int) + ((k : Int) + 1)) % 4294967296) + bits .xor .u32 (bits .or .u32 (((x.toNat : Int) + (y.toNat : Int) + ((k : Int) + 1)) % 4294967296 * 8192 % 4294967296) (((x.toNat : Int) + (y.toNat : Int) + ((k : Int) + 1)) % 4294967296 / 524288)) (bits .xor .u32 (bits .or .u32 ((y.toNat : Int) * 128 % 4294967296) ((y.toNat : Int) / 33554432)) (((x.toNat : Int) + (y.toNat : Int) + ((k : Int) + 1)) % 4294967296))) % 4294967296 = ((rnd (k + 1) (x, y)).2.toNat : Int) := by
  rw [add3_mod, shl13, shr19, shl7, shr25, bits_or, bits_or, bits_xor, bits_xor, add_mod]; rfl
theorem stir_any (a b : W32) (w : World) :
    Calls Try.prog 96 #[.int .u32 (u a), .int .u32 (u b)] w fun e w' => e = .returned (.tuple #[.int .u32 (u (stir (a, b)).1), .int .u32 (u (stir (a, b)).2)]) ∧ w' = w := by
  unfold u
  go_enter Try.func96, Try.ntmps96
  go_wp2
  go_loop [0, 1, 6] (fun p q i => ∃ (x y : W32) (k : Nat), k ≤ 3 ∧ p = .int .u32 x.toNat ∧ q = .int .u32 y.toNat ∧ i = .int .u32 (k + 1) ∧ (x, y) = rnds k (a, b)) (fun _ _ i => 4 - (intOf i).toNat)
  case atStart => exact ⟨a, b, 0, by omega, rfl, rfl, rfl, rfl⟩
  case round =>
    obtain ⟨x, y, k, hk, rfl, rfl, rfl, hr⟩ := hrel; have hx := x.isLt; have hy := y.isLt; have HR : Hid ((x, y) = rnds k (a, b)) := hr; clear hr
    by_cases hlt : k < 3
    · go_wp2
      go_round
      case rel => exact ⟨(rnd (k + 1) (x, y)).1, (rnd (k + 1) (x, y)).2, k + 1, by omega, by rw [rnd_fst], by rw [rnd_snd], by simp, by rw [rnds, ← HR.out]⟩
      case measure => simp [intOf]; omega
    · obtain rfl : k = 3 := by omega
      go_wp2; go_ret2
      have e : stir (a, b) = (x, y) := by rw [stir, ← HR.out]
      rw [e]; exact ⟨rfl, rfl⟩
theorem or_byte (n : Nat) (c : UInt8) (h : n < 16777216) : bits .or .u32 ((n : Int) * 256) ((c.toNat : Int) % (4294967296 : Int)) = ((n * 256 + c.toNat : Nat) : Int) := by
  have hc := c.toNat_lt
  have e1 : (n : Int) * 256 = ((BitVec.ofNat 32 (n * 256)).toNat : Int) := by rw [BitVec.toNat_ofNat]; omega
  have e2 : (c.toNat : Int) % (4294967296 : Int) = ((BitVec.ofNat 32 c.toNat).toNat : Int) := by rw [BitVec.toNat_ofNat]; omega
  rw [e1, e2, bits_or, BitVec.toNat_or, BitVec.toNat_ofNat, BitVec.toNat_ofNat, Nat.mod_eq_of_lt (by omega), Nat.mod_eq_of_lt (by omega)]
  congr 1
  have := Nat.two_pow_add_eq_or_of_lt (i := 8) (b := c.toNat) (by omega) n
  rw [Nat.mul_comm n 256]; exact this.symm
theorem getD_drop (s : ByteArray) (o k : Nat) (h : o + k < s.size) : (s.data.toList.drop o).getD k 0 = s[o + k] := by
  rw [List.getD_eq_getElem?_getD, List.getElem?_drop, List.getElem?_eq_getElem (by simpa using h)]
  rfl
theorem getD_drop_out (s : ByteArray) (o k : Nat) (h : ¬ o + k < s.size) : (s.data.toList.drop o).getD k 0 = 0 := by
  rw [List.getD_eq_getElem?_getD, List.getElem?_drop, List.getElem?_eq_none (by simpa using h)]
  rfl
theorem number_any (s : ByteArray) (o : Nat) (w : World) (hs : s.size ≤ maxLen) (ho : o ≤ 1000000) :
    Calls Try.prog 64 #[.string s, .int .i64 o] w fun e w' => e = .returned (.int .u32 (u (wd (s.data.toList.drop o)))) ∧ w' = w := by
  unfold maxLen at hs
  unfold u
  go_enter Try.func64, Try.ntmps64
  go_wp2
  go_loop [5, 6] (fun n i => ∃ (k : Nat), k ≤ 4 ∧ n = .int .u32 (wn k (s.data.toList.drop o) : Nat) ∧ i = .int .i64 k) (fun _ i => 4 - (intOf i).toNat)
  case atStart => exact ⟨0, by omega, rfl, rfl⟩
  case round =>
    obtain ⟨k, hk, rfl, rfl⟩ := hrel; have hn := wn_lt k (s.data.toList.drop o)
    by_cases hlt : k < 4
    · have hn' : wn k (s.data.toList.drop o) < 16777216 := Nat.lt_of_lt_of_le hn (Nat.pow_le_pow_right (n := 256) (i := k) (j := 3) (by omega) (by omega))
      clear hn
      by_cases hin : o + k < s.size
      · go_wp2
        go_round
        case rel => exact ⟨k + 1, by omega, by rw [or_byte _ _ hn', wn, getD_drop s o k hin], by simp⟩
        case measure => simp [intOf]; omega
      · go_wp2
        go_round
        case rel => exact ⟨k + 1, by omega, by rw [wn, getD_drop_out s o k hin]; simp, by simp⟩
        case measure => simp [intOf]; omega
    · obtain rfl : k = 4 := by omega
      go_wp2; go_ret; rw [wd_toNat]; exact ⟨rfl, rfl⟩
theorem conv4 (w : World) (a b c d : Int) :
    (convert 76 9 (.slice (some ⟨w.heap.size, 0, none⟩) 4 4)).run Try.prog (w.alloc (.cells #[.int .u8 a, .int .u8 b, .int .u8 c, .int .u8 d] 5)) =
      .ok (.string (str [UInt8.ofNat a.toNat, UInt8.ofNat b.toNat, UInt8.ofNat c.toNat, UInt8.ofNat d.toNat])) (w.alloc (.cells #[.int .u8 a, .int .u8 b, .int .u8 c, .int .u8 d] 5)) := by
  rw [run_convert_bytes_string _ 76 9 5 _ _ _ Try.underlying76 Try.underlying5 Try.underlying9]
  rw [run_bytesToString (ns := [a, b, c, d])]
  · rfl
  · exact run_loadCells_list (P := Try.prog) _ _ [.int .u8 a, .int .u8 b, .int .u8 c, .int .u8 d] (by
      intro j v hj
      match j, hj with
      | 0, hj | 1, hj | 2, hj | 3, hj => simp at hj; subst hj; simp [Addr.add, go_sem])
theorem conv1 (w : World) (a : Int) :
    (convert 76 9 (.slice (some ⟨w.heap.size, 0, none⟩) 1 1)).run Try.prog (w.alloc (.cells #[.int .u8 a] 5)) =
      .ok (.string (str [UInt8.ofNat a.toNat])) (w.alloc (.cells #[.int .u8 a] 5)) := by
  rw [run_convert_bytes_string _ 76 9 5 _ _ _ Try.underlying76 Try.underlying5 Try.underlying9]
  rw [run_bytesToString (ns := [a])]
  · rfl
  · exact run_loadCells_list (P := Try.prog) _ _ [.int .u8 a] (by
      intro j v hj
      match j, hj with
      | 0, hj => simp at hj; subst hj; simp [Addr.add, go_sem])
theorem text_any (x : W32) (w : World) :
    Calls Try.prog 80 #[.int .u32 (u x)] w fun e w' => e = .returned (.string (str (four x))) ∧ Below w.heap.size w w' := by
  have hx := x.isLt; have kc := conv4
  unfold u
  go_enter Try.func80, Try.ntmps80
  go_wp2; go_ret
  refine ⟨?_, (Below.refl _ _).alloc (Nat.le_refl _) _⟩
  show Ending.returned (Value.string (str [_, _, _, _])) = _
  rw [four, ofNat_mod, ofNat_mod, ofNat_mod]
theorem xor_len (n : Nat) (x : W32) (h : n ≤ 1000000) : bits .xor .u32 (u x) (n : Int) = u (x ^^^ BitVec.ofNat 32 n) := by
  have e : (n : Int) = u (BitVec.ofNat 32 n) := by unfold u; rw [BitVec.toNat_ofNat]; omega
  rw [← u_xor, ← e]
theorem number_int (s : ByteArray) (o : Int) (w : World) (hs : s.size ≤ maxLen) (h0 : 0 ≤ o) (ho : o ≤ 1000000) :
    Calls Try.prog 64 #[.string s, .int .i64 o] w fun e w' => e = .returned (.int .u32 (u (wd (s.data.toList.drop o.toNat)))) ∧ w' = w := by
  obtain ⟨n, rfl⟩ := Int.eq_ofNat_of_zero_le h0
  exact number_any s n w hs (by omega)
set_option maxHeartbeats 300000 in
theorem keysMix_any (key s : ByteArray) (w : World) (hk : key.size ≤ maxLen) (hs : s.size ≤ 1000000) :
    Calls Try.prog 81 #[.string key, .string s] w fun e w' => e = .returned (.string (str (mixed key.data.toList s.data.toList))) ∧ Below w.heap.size w w' := by
  have hs' : s.size ≤ maxLen := by unfold maxLen; omega
  have hxr := u_xor; have h0 : (0 : Int).toNat = 0 := rfl; have h4 : (4 : Int).toNat = 4 := rfl
  have hxl := fun x => xor_len s.size x hs
  have hss := str_four_size
  go_enter Try.func81, Try.ntmps81
  go_wp2_with (go_at_call 64; refine (number_int key _ _ hk (by omega) (by omega)).mono ?_; rintro e w' ⟨rfl, rfl⟩)
  go_loop [5, 6, 7] (fun p q i => ∃ (x y : W32) (k : Nat), k ≤ 2000000 ∧ p = .int .u32 (u x) ∧ q = .int .u32 (u y) ∧ i = .int .i64 k ∧ absorb (s.data.toList.drop k) (x, y) = absorb s.data.toList (wd key.data.toList, wd (key.data.toList.drop 4))) (fun _ _ i => s.size - (intOf i).toNat)
  case atStart => exact ⟨_, _, 0, by omega, rfl, rfl, rfl, rfl⟩
  case round =>
    obtain ⟨x, y, k, hkk, rfl, rfl, rfl, hr⟩ := hrel; have HR : Hid (absorb (s.data.toList.drop k) (x, y) = absorb s.data.toList (wd key.data.toList, wd (key.data.toList.drop 4))) := hr; clear hr
    by_cases hlt : k < s.size
    · go_wp2_with (first | (go_at_call 64; refine (number_int s _ _ hs' (by omega) (by omega)).mono ?_; rintro e w' ⟨rfl, rfl⟩) | (go_at_call 96; refine (stir_any _ _ _).mono ?_; rintro e w' ⟨rfl, rfl⟩))
      go_round
      case rel =>
        refine ⟨_, _, k + 4, by omega, rfl, rfl, by simp, ?_⟩
        rw [← HR.out, absorb_step (s.data.toList.drop k) _ (by intro h; have := congrArg List.length h; simp at this; omega), List.drop_drop]
      case measure => simp [intOf]; omega
    · have hnil : s.data.toList.drop k = [] := List.drop_eq_nil_of_le (by simpa using hlt)
      have HR2 : Hid ((x, y) = absorb s.data.toList (wd key.data.toList, wd (key.data.toList.drop 4))) := by have := HR.out; rw [hnil, absorb_nil] at this; exact this
      clear HR hnil
      go_wp2_with (go_at_call 96; refine (stir_any _ _ _).mono ?_; rintro e w' ⟨rfl, rfl⟩)
      go_wp2_with (go_at_call 80; refine (text_any _ _).mono ?_; rintro e w2 ⟨rfl, hb⟩)
      go_ret
      refine ⟨?_, below_tr ‹Below w'.heap.size w' _› hb⟩
      show Ending.returned (Value.string _) = _
      rw [str_append]
      have e : mixed key.data.toList s.data.toList = four (stir ((stir (x, y ^^^ BitVec.ofNat 32 s.size)).fst, (stir (x, y ^^^ BitVec.ofNat 32 s.size)).snd)).fst ++ four (stir ((stir (x, y ^^^ BitVec.ofNat 32 s.size)).fst, (stir (x, y ^^^ BitVec.ofNat 32 s.size)).snd)).snd := by
        simp only [mixed, mixW, ← HR2.out]; rfl
      rw [e]
end Go.Proofs.Ytabpkohcimiceab
