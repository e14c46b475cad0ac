import Derived.Test.YtabpkohcimiceabPow
namespace Go.Proofs.Ytabpkohcimiceab
set_option maxRecDepth 100000
set_option maxHeartbeats 1000000
open Go.RowKit
set_option linter.unusedVariables false
theorem pwN_pow (y a b : Nat) : pwN (pwN y a) b = pwN y (a * b) := by
  unfold pwN; rw [← Nat.pow_mod, ← Nat.pow_mul]
theorem pow7_ne (x : Nat) : 7 ^ x % PP ≠ 0 := by
  intro h
  have hd : PP ∣ 7 ^ x := Nat.dvd_of_mod_eq_zero h
  have hc : Nat.gcd (7 ^ x) PP = 1 := by
    have : Nat.Coprime 7 PP := by decide
    exact Nat.Coprime.pow_left x this
  rw [Nat.gcd_eq_right hd] at hc
  exact absurd hc (by decide)
theorem pwN7_pos (x : Nat) : 1 ≤ pwN 7 x := by have := pow7_ne x; unfold pwN; omega
theorem wf_i64 {x : Int} (h : (Lit.int .i64 x).wf = true) : -9223372036854775808 ≤ x ∧ x ≤ 9223372036854775807 := by
  simp [Lit.wf, IntKind.min, IntKind.max, IntKind.signed, IntKind.bits] at h
  exact ⟨by omega, by omega⟩
def pickN (c n : Int) : Int := (if c < 0 then -(c + 1) else c) % n
theorem pickN_bd (c n : Int) (h : 1 ≤ n) : 0 ≤ pickN c n ∧ pickN c n < n := by
  unfold pickN; exact ⟨Int.emod_nonneg _ (by omega), Int.emod_lt_of_pos _ (by omega)⟩
theorem pick_any (c n : Int) (w : World) (h0 : -9223372036854775808 ≤ c) (h1 : c ≤ 9223372036854775807) (hn : 1 ≤ n) (hn' : n ≤ 9223372036854775807) :
    Calls Try.prog 12 #[.int .i64 c, .int .i64 n] w fun e w' => e = .returned (.int .i64 (pickN c n)) ∧ w' = w := by
  by_cases h : c < 0
  · rw [pickN, if_pos h]
    go_enter Try.func12, Try.ntmps12
    go_wp2; go_ret
    refine ⟨?_, rfl⟩
    show Ending.returned (Value.int _ (-(c + 1).tmod n)) = _
    rw [← Int.neg_tmod, Int.tmod_eq_emod_of_nonneg (by omega)]
  · rw [pickN, if_neg h]
    go_enter Try.func12, Try.ntmps12
    go_wp2; go_ret; exact ⟨rfl, rfl⟩
def secN (c : Int) : Int := 1 + pickN c 2147483645
theorem secN_sec (c : Int) : Sec (secN c) := by have := pickN_bd c 2147483645 (by omega); unfold secN Sec; omega
theorem secretOf_any (c : Int) (w : World) (h0 : -9223372036854775808 ≤ c) (h1 : c ≤ 9223372036854775807) :
    Calls Try.prog 10 #[.int .i64 c] w fun e w' => e = .returned (.int .i64 (secN c)) ∧ w' = w := by
  obtain ⟨b0, b1⟩ := pickN_bd c 2147483645 (by omega)
  unfold secN
  go_enter Try.func10, Try.ntmps10
  go_wp2_with (go_at_call 12; refine (pick_any _ _ _ h0 h1 (by omega) (by omega)).mono ?_; rintro e w' ⟨rfl, rfl⟩)
  go_ret; exact ⟨rfl, rfl⟩
theorem agree_facts (a b : Int) (ha : Sec a) (hb : Sec b) : shErr a 7 = 0 ∧ shErr b 7 = 0 ∧ shErr a (shOut b 7) = 0 ∧ shErr b (shOut a 7) = 0 ∧ shOut a (shOut b 7) = shOut b (shOut a 7) ∧ 1 ≤ shOut b (shOut a 7) ∧ shOut b (shOut a 7) < 2147483647 ∧ 1 ≤ shOut a 7 ∧ shOut a 7 < 2147483647 := by
  have e1 : ∀ x, Sec x → shOut x 7 = (pwN 7 x.toNat : Int) := fun x hx => by rw [shOut, if_pos ((sec_pub7 x).2 hx)]; rfl
  have e2 : ∀ x, Sec x → Pub (shOut x 7) := fun x hx => by
    rw [e1 x hx]; have := pwN7_pos x.toNat; have := pwN_lt 7 x.toNat; unfold Pub; omega
  have e3 : ∀ x y, Sec x → Sec y → shOut x (shOut y 7) = (pwN 7 (y.toNat * x.toNat) : Int) := fun x y hx hy => by
    rw [shOut, if_pos ⟨hx, e2 y hy⟩, e1 y hy, pw, Int.toNat_natCast, pwN_pow]
  have e4 : ∀ x y, Sec x → Pub y → shErr x y = 0 := fun x y hx hy => by rw [shErr, if_pos ⟨hx, hy⟩]
  refine ⟨e4 _ _ ha (by decide), e4 _ _ hb (by decide), e4 _ _ ha (e2 b hb), e4 _ _ hb (e2 a ha), ?_, ?_, ?_, (e2 a ha).1, ?_⟩
  · rw [e3 a b ha hb, e3 b a hb ha, Nat.mul_comm]
  · rw [e3 b a hb ha]; have := pwN7_pos (a.toNat * b.toNat); omega
  · rw [e3 b a hb ha]; have := pwN_lt 7 (a.toNat * b.toNat); omega
  · have := (e2 a ha).2; omega
end Go.Proofs.Ytabpkohcimiceab
