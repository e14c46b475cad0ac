import Derived.Test.YtabpkohcimiceaaRefs
import Derived.WalkKit
import Derived.WalkSpells
import Derived.WalkLawsBesides
namespace Go.Proofs.Ytabpkohcimiceaa
open Go.RowKit
set_option linter.unusedVariables false

theorem xor_len (n : Nat) (x : W32) (h : n ≤ 1000000) : bits .xor .u32 (u x) (n : Int) = u (x ^^^ BitVec.ofNat 32 n) := by
  have e : (n : Int) = u (BitVec.ofNat 32 n) := by unfold u; rw [BitVec.toNat_ofNat]; omega
  rw [← u_xor, ← e]
theorem number_int (s : ByteArray) (o : Int) (w : World) (hs : s.size ≤ maxLen) (h0 : 0 ≤ o) (ho : o ≤ 1000000) :
    Calls Try.prog 108 #[.string s, .int .i64 o] w fun e w' => e = .returned (.int .u32 (u (wd (s.data.toList.drop o.toNat)))) ∧ w' = w := by
  obtain ⟨n, rfl⟩ := Int.eq_ofNat_of_zero_le h0
  exact number_any s n w hs (by omega)

set_option maxRecDepth 100000 in
set_option maxHeartbeats 300000 in
theorem keysMix_any (key s : ByteArray) (w : World) (hk : key.size ≤ maxLen) (hs : s.size ≤ 1000000) :
    Calls Try.prog 51 #[.string key, .string s] w fun e w' => e = .returned (.string (str (mixed key.data.toList s.data.toList))) ∧ Below w.heap.size w w' := by
  have hs' : s.size ≤ maxLen := by unfold maxLen; omega
  have hxr := u_xor
  have h0 : (0 : Int).toNat = 0 := rfl
  have h4 : (4 : Int).toNat = 4 := rfl
  have hxl := fun x => xor_len s.size x hs
  have hss := str_four_size
  go_enter Try.func51, Try.ntmps51
  go_wp2_with (go_at_call 108; refine (number_int key _ _ hk (by omega) (by omega)).mono ?_; rintro e w' ⟨rfl, rfl⟩)
  go_loop [5, 6, 7] (fun p q i => ∃ (x y : W32) (k : Nat), k ≤ 2000000 ∧ p = .int .u32 (u x) ∧ q = .int .u32 (u y) ∧ i = .int .i64 k ∧ absorb (s.data.toList.drop k) (x, y) = absorb s.data.toList (wd key.data.toList, wd (key.data.toList.drop 4))) (fun _ _ i => s.size - (intOf i).toNat)
  case atStart => exact ⟨_, _, 0, by omega, rfl, rfl, rfl, rfl⟩
  case round =>
    obtain ⟨x, y, k, hkk, rfl, rfl, rfl, hr⟩ := hrel
    have HR : Hid (absorb (s.data.toList.drop k) (x, y) = absorb s.data.toList (wd key.data.toList, wd (key.data.toList.drop 4))) := hr
    clear hr
    by_cases hlt : k < s.size
    · go_wp2_with (first | (go_at_call 108; refine (number_int s _ _ hs' (by omega) (by omega)).mono ?_; rintro e w' ⟨rfl, rfl⟩) | (go_at_call 109; refine (stir_any _ _ _).mono ?_; rintro e w' ⟨rfl, rfl⟩))
      go_round
      case rel =>
        refine ⟨_, _, k + 4, by omega, rfl, rfl, by simp, ?_⟩
        rw [← HR.out, absorb_step (s.data.toList.drop k) _ (by intro h; have := congrArg List.length h; simp at this; omega), List.drop_drop]
      case measure => simp [intOf]; omega
    · have hnil : s.data.toList.drop k = [] := List.drop_eq_nil_of_le (by simpa using hlt)
      have HR2 : Hid ((x, y) = absorb s.data.toList (wd key.data.toList, wd (key.data.toList.drop 4))) := by have := HR.out; rw [hnil, absorb_nil] at this; exact this
      clear HR hnil
      go_wp2_with (go_at_call 109; refine (stir_any _ _ _).mono ?_; rintro e w' ⟨rfl, rfl⟩)
      go_wp2_with (go_at_call 110; refine (text_any _ _).mono ?_; rintro e w2 ⟨rfl, hb⟩)
      go_ret
      refine ⟨?_, below_tr ‹Below w'.heap.size w' _› hb⟩
      show Ending.returned (Value.string _) = _
      rw [str_append]
      have e : mixed key.data.toList s.data.toList = four (stir ((stir (x, y ^^^ BitVec.ofNat 32 s.size)).fst, (stir (x, y ^^^ BitVec.ofNat 32 s.size)).snd)).fst ++ four (stir ((stir (x, y ^^^ BitVec.ofNat 32 s.size)).fst, (stir (x, y ^^^ BitVec.ofNat 32 s.size)).snd)).snd := by
        simp only [mixed, mixW, ← HR2.out]; rfl
      rw [e]
end Go.Proofs.Ytabpkohcimiceaa
