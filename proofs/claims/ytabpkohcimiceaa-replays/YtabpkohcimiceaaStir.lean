import Derived.Test.YtabpkohcimiceaaRows
import Derived.Test.YtabpkohcimiceaaMath
import Derived.WalkKit
import Derived.WalkSpells
import Derived.WalkLawsBesides
namespace Go.Proofs.Ytabpkohcimiceaa
open Go.RowKit
set_option linter.unusedVariables false

theorem rnd_fst (x y : W32) (k : Nat) : bits .xor .u32 (bits .or .u32 (((x.toNat : Int) + (y.toNat : Int) + ((k : Int) + 1)) % 4294967296 * 8192 % 4294967296) (((x.toNat : Int) + (y.toNat : Int) + ((k : Int) + 1)) % 4294967296 / 524288)) (bits .xor .u32 (bits .or .u32 ((y.toNat : Int) * 128 % 4294967296) ((y.toNat : Int) / 33554432)) (((x.toNat : Int) + (y.toNat : Int) + ((k : Int) + 1)) % 4294967296)) = ((rnd (k + 1) (x, y)).1.toNat : Int) := by
  rw [add3_mod, shl13, shr19, shl7, shr25, bits_or, bits_or, bits_xor, bits_xor]; rfl
theorem rnd_snd (x y : W32) (k : Nat) : (bits .xor .u32 (bits .or .u32 ((y.toNat : Int) * 128 % 4294967296) ((y.toNat : Int) / 33554432)) (((x.toNat : Int) + (y.toNat : Int) + ((k : Int) + 1)) % 4294967296) + bits .xor .u32 (bits .or .u32 (((x.toNat : Int) + (y.toNat : Int) + ((k : Int) + 1)) % 4294967296 * 8192 % 4294967296) (((x.toNat : Int) + (y.toNat : Int) + ((k : Int) + 1)) % 4294967296 / 524288)) (bits .xor .u32 (bits .or .u32 ((y.toNat : Int) * 128 % 4294967296) ((y.toNat : Int) / 33554432)) (((x.toNat : Int) + (y.toNat : Int) + ((k : Int) + 1)) % 4294967296))) % 4294967296 = ((rnd (k + 1) (x, y)).2.toNat : Int) := by
  rw [add3_mod, shl13, shr19, shl7, shr25, bits_or, bits_or, bits_xor, bits_xor, add_mod]; rfl

set_option maxRecDepth 100000 in
set_option maxHeartbeats 400000 in
theorem stir_any (a b : W32) (w : World) :
    Calls Try.prog 109 #[.int .u32 (u a), .int .u32 (u b)] w fun e w' => e = .returned (.tuple #[.int .u32 (u (stir (a, b)).1), .int .u32 (u (stir (a, b)).2)]) ∧ w' = w := by
  unfold u
  go_enter Try.func109, Try.ntmps109
  go_wp2
  go_loop [0, 1, 6] (fun p q i => ∃ (x y : W32) (k : Nat), k ≤ 3 ∧ p = .int .u32 x.toNat ∧ q = .int .u32 y.toNat ∧ i = .int .u32 (k + 1) ∧ (x, y) = rnds k (a, b)) (fun _ _ i => 4 - (intOf i).toNat)
  case atStart => exact ⟨a, b, 0, by omega, rfl, rfl, rfl, rfl⟩
  case round =>
    obtain ⟨x, y, k, hk, rfl, rfl, rfl, hr⟩ := hrel
    have hx := x.isLt
    have hy := y.isLt
    have HR : Hid ((x, y) = rnds k (a, b)) := hr
    clear hr
    by_cases hlt : k < 3
    · go_wp2
      go_round
      case rel => exact ⟨(rnd (k + 1) (x, y)).1, (rnd (k + 1) (x, y)).2, k + 1, by omega, by rw [rnd_fst], by rw [rnd_snd], by simp, by rw [rnds, ← HR.out]⟩
      case measure => simp [intOf]; omega
    · obtain rfl : k = 3 := by omega
      go_wp2
      go_ret2
      have e : stir (a, b) = (x, y) := by rw [stir, ← HR.out]
      rw [e]
      exact ⟨rfl, rfl⟩
end Go.Proofs.Ytabpkohcimiceaa
