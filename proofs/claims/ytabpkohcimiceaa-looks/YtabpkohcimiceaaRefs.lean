import Derived.Test.YtabpkohcimiceaaQuad
import Derived.WalkKit
import Derived.WalkSpells
import Derived.WalkLawsBesides
namespace Go.Proofs.Ytabpkohcimiceaa
open Go.RowKit
set_option linter.unusedVariables false

theorem add_byte (n : Nat) (c : UInt8) (h : n < 16777216) : ((n : Int) * 256 + (c.toNat : Int) % (4294967296 : Int)) % (4294967296 : Int) = ((n * 256 + c.toNat : Nat) : Int) := by
  have hc := c.toNat_lt
  omega

set_option maxRecDepth 100000 in
set_option maxHeartbeats 400000 in
theorem word_any (s : ByteArray) (w : World) (hs : s.size ≤ maxLen) :
    Calls Try.prog 111 #[.string s] w fun e w' => e = .returned (.int .u32 (u (wd s.data.toList))) ∧ w' = w := by
  unfold maxLen at hs
  unfold u
  go_enter Try.func111, Try.ntmps111
  go_wp2
  go_loop [3, 4] (fun n i => ∃ (k : Nat), k ≤ 4 ∧ n = .int .u32 (wn k s.data.toList : Nat) ∧ i = .int .i64 k) (fun _ i => 4 - (intOf i).toNat)
  case atStart => exact ⟨0, by omega, rfl, rfl⟩
  case round =>
    obtain ⟨k, hk, rfl, rfl⟩ := hrel
    have hn := wn_lt k s.data.toList
    by_cases hlt : k < 4
    · have hn' : wn k s.data.toList < 16777216 := Nat.lt_of_lt_of_le hn (Nat.pow_le_pow_right (n := 256) (i := k) (j := 3) (by omega) (by omega))
      clear hn
      by_cases hin : k < s.size
      · have hg : s.data.toList.getD k 0 = s[k] := by have := getD_drop s 0 k (by omega); simpa using this
        have HG : Hid (s.data.toList.getD k 0 = s[k]) := hg
        clear hg
        go_wp2
        go_round
        case rel => exact ⟨k + 1, by omega, by rw [add_byte _ _ hn', wn, HG.out], by simp⟩
        case measure => simp [intOf]; omega
      · have hg : s.data.toList.getD k 0 = 0 := by have := getD_drop_out s 0 k (by omega); simpa using this
        have HG : Hid (s.data.toList.getD k 0 = 0) := hg
        clear hg
        go_wp2
        go_round
        case rel => exact ⟨k + 1, by omega, by rw [wn, HG.out]; simp, by simp⟩
        case measure => simp [intOf]; omega
    · obtain rfl : k = 4 := by omega
      go_wp2
      go_ret
      rw [wd_toNat]
      exact ⟨rfl, rfl⟩

set_option maxRecDepth 100000 in
set_option maxHeartbeats 400000 in
theorem stirred_any (a b : W32) (w : World) :
    Calls Try.prog 112 #[.agg #[.int .u32 (u a), .int .u32 (u b)]] w fun e w' => e = .returned (.agg #[.int .u32 (u (stir (a, b)).1), .int .u32 (u (stir (a, b)).2)]) ∧ ∃ c1 c2, w' = (w.alloc (.cells c1 154)).alloc (.cells c2 154) := by
  unfold u
  go_enter Try.func112, Try.ntmps112
  go_wp2
  go_loopw [3] (fun i wr => ∃ (x y : W32) (k : Nat), k ≤ 3 ∧ i = .int .u32 (k + 1) ∧ (x, y) = rnds k (a, b) ∧ wr = (w.alloc (.cells #[.int .u32 x.toNat, .int .u32 y.toNat] 154)).alloc (.cells #[.int .u32 0, .int .u32 0] 154)) (fun i _ => 4 - (intOf i).toNat)
  case atStart => exact ⟨a, b, 0, by omega, rfl, rfl, rfl⟩
  case round =>
    obtain ⟨x, y, k, hk, rfl, hr, rfl⟩ := hrel
    have hx := x.isLt
    have hy := y.isLt
    have HR : Hid ((x, y) = rnds k (a, b)) := hr
    clear hr
    by_cases hlt : k < 3
    · go_wp2
      go_roundw
      case rel => exact ⟨(rnd (k + 1) (x, y)).1, (rnd (k + 1) (x, y)).2, k + 1, by omega, by simp, by rw [rnds, ← HR.out], by rw [← rnd_fst, ← rnd_snd]⟩
      case measure => simp [intOf]; omega
    · obtain rfl : k = 3 := by omega
      go_wp2
      exact bodyPost_ret (v := .agg #[.int .u32 x.toNat, .int .u32 y.toNat]) (by simp [results, Try.results112, go_sem]) rfl ⟨by rw [show stir (a, b) = (x, y) by rw [stir, ← HR.out]], _, _, rfl⟩
end Go.Proofs.Ytabpkohcimiceaa
