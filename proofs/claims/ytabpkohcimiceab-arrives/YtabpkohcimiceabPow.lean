import Derived.Test.YtabpkohcimiceabGrund
import Derived.Test.YtabpkohcimiceabRows
import Derived.WalkSpells
import Derived.WalkLawsBesides
namespace Go.Proofs.Ytabpkohcimiceab
set_option maxRecDepth 100000
set_option maxHeartbeats 1000000
open Go.RowKit
set_option linter.unusedVariables false
def PP : Nat := 2147483647
def pwN (y x : Nat) : Nat := y ^ x % PP
def pw (y x : Int) : Int := (pwN y.toNat x.toNat : Int)
theorem pwN_lt (y x : Nat) : pwN y x < 2147483647 := Nat.mod_lt _ (by decide)
theorem step_odd (r q t : Nat) (h : t % 2 = 1) : (r * q % 2147483647) * (q * q % 2147483647) ^ (t / 2) % PP = r * q ^ t % PP := by
  show (r * q % PP) * (q * q % PP) ^ (t / 2) % PP = r * q ^ t % PP
  rw [Nat.mod_mul_mod, Nat.mul_mod, ← Nat.pow_mod, ← Nat.mul_mod, ← Nat.pow_two, ← Nat.pow_mul, Nat.mul_assoc, ← Nat.pow_succ']
  congr 3; omega
theorem step_even (r q t : Nat) (h : t % 2 = 0) : r * (q * q % 2147483647) ^ (t / 2) % PP = r * q ^ t % PP := by
  show r * (q * q % PP) ^ (t / 2) % PP = r * q ^ t % PP
  rw [Nat.mul_mod, ← Nat.pow_mod, ← Nat.mul_mod, ← Nat.pow_two, ← Nat.pow_mul]
  congr 3; omega
theorem mul_bd (r q : Nat) (hr : r < 2147483647) (hq : q < 2147483647) : (r : Int) * (q : Int) ≤ 4611686014132420609 ∧ 0 ≤ (r : Int) * (q : Int) := by
  have h := Nat.mul_le_mul (show r ≤ 2147483647 by omega) (show q ≤ 2147483647 by omega)
  refine ⟨?_, Int.mul_nonneg (by omega) (by omega)⟩
  have : ((r * q : Nat) : Int) ≤ ((2147483647 * 2147483647 : Nat) : Int) := by exact_mod_cast h
  simpa using this
theorem power_any (y x : Nat) (w : World) (hy : y < 2147483647) (hx : x < 2147483647) :
    Calls Try.prog 71 #[.int .i64 y, .int .i64 x] w fun e w' => e = .returned (.int .i64 (pwN y x)) ∧ w' = w := by
  go_enter Try.func71, Try.ntmps71
  go_wp2
  go_loop [5, 6, 7] (fun a b c => ∃ r q t : Nat, a = .int .i64 r ∧ b = .int .i64 q ∧ c = .int .i64 t ∧ r < 2147483647 ∧ q < 2147483647 ∧ t < 2147483647 ∧ r * q ^ t % PP = pwN y x) (fun _ _ c => (intOf c).toNat)
  case atStart => exact ⟨1, y, x, rfl, rfl, rfl, by omega, hy, hx, by rw [Nat.one_mul]; rfl⟩
  case round =>
    obtain ⟨r, q, t, rfl, rfl, rfl, hr, hq, ht, hi⟩ := hrel; have HI : Hid (r * q ^ t % PP = pwN y x) := hi; clear hi; obtain ⟨m1, m2⟩ := mul_bd r q hr hq; obtain ⟨m3, m4⟩ := mul_bd q q hq hq
    by_cases h0 : 0 < t
    · by_cases h1 : t % 2 = 1
      · go_wp2
        go_round
        case rel => exact ⟨r * q % 2147483647, q * q % 2147483647, t / 2, by simp, by simp, by simp, Nat.mod_lt _ (by decide), Nat.mod_lt _ (by decide), by omega, by rw [step_odd r q t h1]; exact HI.out⟩
        case measure => simp [intOf]; omega
      · have h1' : t % 2 = 0 := by omega
        go_wp2
        go_round
        case rel => exact ⟨r, q * q % 2147483647, t / 2, by simp, by simp, by simp, hr, Nat.mod_lt _ (by decide), by omega, by rw [step_even r q t h1']; exact HI.out⟩
        case measure => simp [intOf]; omega
    · obtain rfl : t = 0 := by omega
      go_wp2; go_ret
      have e : r = pwN y x := by
        have := HI.out
        rw [Nat.pow_zero, Nat.mul_one] at this
        rw [← this]; exact (Nat.mod_eq_of_lt (by unfold PP; omega)).symm
      rw [← e]; exact ⟨rfl, rfl⟩
theorem power_int (y x : Int) (w : World) (hy0 : 0 ≤ y) (hy : y < 2147483647) (hx0 : 0 ≤ x) (hx : x < 2147483647) :
    Calls Try.prog 71 #[.int .i64 y, .int .i64 x] w fun e w' => e = .returned (.int .i64 (pw y x)) ∧ w' = w := by
  obtain ⟨a, rfl⟩ := Int.eq_ofNat_of_zero_le hy0; obtain ⟨b, rfl⟩ := Int.eq_ofNat_of_zero_le hx0
  exact power_any a b w (by omega) (by omega)
def Sec (x : Int) : Prop := 1 ≤ x ∧ x ≤ 2147483645
def Pub (y : Int) : Prop := 1 ≤ y ∧ y ≤ 2147483646
instance (x : Int) : Decidable (Sec x) := inferInstanceAs (Decidable (_ ∧ _))
instance (x : Int) : Decidable (Pub x) := inferInstanceAs (Decidable (_ ∧ _))
def shOut (x y : Int) : Int := if Sec x ∧ Pub y then pw y x else 0
def shErr (x y : Int) : Int := if Sec x ∧ Pub y then 0 else 3
theorem sec_pub7 (x : Int) : (Sec x ∧ Pub 7) ↔ Sec x := ⟨fun h => h.1, fun h => ⟨h, by decide⟩⟩
theorem pawlPublic_any (x : Int) (w : World) :
    Calls Try.prog 35 #[.int .i64 x] w fun e w' => e = .returned (.tuple #[.int .i64 (shOut x 7), .int .i64 (shErr x 7)]) ∧ w' = w := by
  by_cases h : Sec x
  · rw [shOut, shErr, if_pos ((sec_pub7 x).2 h), if_pos ((sec_pub7 x).2 h)]; obtain ⟨h1, h2⟩ := h
    go_enter Try.func35, Try.ntmps35
    go_wp2_with (first | (go_at_call 71; refine (power_int _ _ _ (by omega) (by omega) (by omega) (by omega)).mono ?_; rintro e w' ⟨rfl, rfl⟩) | go_in)
    go_ret2; exact ⟨rfl, rfl⟩
  · rw [shOut, shErr, if_neg (fun g => h g.1), if_neg (fun g => h g.1)]
    by_cases h1 : 1 ≤ x
    · have h2 : ¬ x ≤ 2147483645 := fun h2 => h ⟨h1, h2⟩
      clear h
      go_enter Try.func35, Try.ntmps35
      go_wp2; go_ret2; exact ⟨rfl, rfl⟩
    · clear h
      go_enter Try.func35, Try.ntmps35
      go_wp2; go_ret2; exact ⟨rfl, rfl⟩
end Go.Proofs.Ytabpkohcimiceab
