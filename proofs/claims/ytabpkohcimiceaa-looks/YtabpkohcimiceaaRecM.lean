import Derived.Test.YtabpkohcimiceaaPackM
import Derived.Test.YtabpkohcimiceaaSafeM
import Derived.Test.YtabpkohcimiceaaRepR
namespace Go.Proofs.Ytabpkohcimiceaa
open Go.RowKit
set_option linter.unusedVariables false

/-! ### Recover's plan is safe -/
theorem part_sec (x : List UInt8) (a : Nat) : ∀ n, (x.drop (a * 32)).take ((n + 1) * 32) = (x.drop (a * 32)).take (n * 32) ++ secL x (a + n) := by
  intro n
  rw [show (n + 1) * 32 = n * 32 + 32 by omega, List.take_add, List.drop_drop, secL, show a * 32 + n * 32 = (a + n) * 32 by omega]
theorem part_of_sec (x y : List UInt8) (a : Nat) : ∀ n, (∀ i, i < n → secL x (a + i) = secL y (a + i)) → (x.drop (a * 32)).take (n * 32) = (y.drop (a * 32)).take (n * 32)
  | 0, _ => by simp
  | n + 1, h => by rw [part_sec, part_sec, part_of_sec x y a n (fun i hi => h i (by omega)), h n (by omega)]
theorem sec_of_part (x y : List UInt8) (a n : Nat) (h : (x.drop (a * 32)).take (n * 32) = (y.drop (a * 32)).take (n * 32)) (i : Nat) (hi : i < n) : secL x (a + i) = secL y (a + i) := by
  have e : ∀ z : List UInt8, secL z (a + i) = (((z.drop (a * 32)).take (n * 32)).drop (i * 32)).take 32 := by
    intro z
    rw [List.drop_take, List.take_take, List.drop_drop, secL, show (a + i) * 32 = a * 32 + i * 32 by omega, Nat.min_eq_left (by omega)]
  rw [e x, e y, h]
theorem take_sec0 (x : List UInt8) : x.take 32 = secL x 0 := by rw [secL]; simp
theorem getD_of_take (x y : List UInt8) (h : x.take 32 = y.take 32) (i : Nat) (hi : i < 32) : x.getD i 0 = y.getD i 0 := by
  have a := getD_tk x 32 i
  have b := getD_tk y 32 i
  rw [if_pos hi] at a b
  rw [← a, ← b, h]

theorem rec_safe (d r : List UInt8) (k : Nat) (hd : d.length = k * 32) (hk1 : 1 ≤ k) (hk2 : k ≤ 40) (hr : repairR d = (r, 0)) :
    recsL (encL (changesR d r 0 k)) k = some (changesR d r 0 k) ∧ (∀ kq, leftL d (changesR d r 0 k) (changesR d r 0 k).length kq = r) ∧
      ∀ m kq, m ≤ (changesR d r 0 k).length → repairR (leftL d (changesR d r 0 k) m kq) = (r, 0) := by
  have hD := disk_of_len d k hd hk1 hk2
  rw [repairR, if_pos hD] at hr
  have key : r.length = k * 32 ∧ ∀ x : List UInt8, x.length = k * 32 → (∀ t, t < k → secL x t = secL r t ∨ secL x t = secL d t) → repairR x = (r, 0) := by
    by_cases h0 : d.take 32 = List.replicate 32 0
    · rw [if_pos h0, hd] at hr
      have e : r = List.replicate (k * 32) 0 := (congrArg Prod.fst hr).symm
      refine ⟨by rw [e, List.length_replicate], fun x hx hs => ?_⟩
      rw [repair_zero x k hx hk1 hk2 ?_, e]
      rcases hs 0 (by omega) with h | h
      · rw [h, e, ← take_sec0, List.take_replicate, Nat.min_eq_left (by omega)]
      · rw [h, ← take_sec0, h0]
    · rw [if_neg h0] at hr
      by_cases ho : heldOk d
      · rw [if_pos ho, hd] at hr
        have e : r = packL (heldS d) (liveL d) (k * 32) := (congrArg Prod.fst hr).symm
        obtain ⟨o1, o2, o3⟩ := heldS_ok d ho
        have hlv : liveL d ≤ 1 := ho.1.2.2.1
        have hcap : (heldS d).cap ≤ 30 := by rw [o3]; exact ho.1.2.1
        have hneed : 1 + 2 * halfN (heldS d).cap ≤ k := by rw [o3]; have := ho.1.2.2.2.2; omega
        have hlaw : lawfulL (heldS d) = true := ho.2.2.2.1
        obtain ⟨p1, p2, p3, p4⟩ := pack_parts (liveL d) k o1 o2 hcap hlv hneed
        have hrl := packL_length (heldS d) (liveL d) k o1 o2 hlv hneed
        refine ⟨by rw [e]; exact hrl, fun x hx hs => ?_⟩
        have ht : r.take 32 = d.take 32 := by rw [e, p1, o3]; exact ho.1.2.2.2.1.symm
        have hx0 : x.take 32 = d.take 32 := by
          rcases hs 0 (by omega) with h | h
          · rw [take_sec0, h, ← take_sec0, ht]
          · rw [take_sec0, h, ← take_sec0]
        have x4 := getD_of_take x d hx0 4 (by omega)
        have x5 := getD_of_take x d hx0 5 (by omega)
        have hsd : sideOf r = sideOf d := by rw [e, p4]; exact ho.2.2.2.2
        have r4 := getD_of_take r d ht 4 (by omega)
        have r5 := getD_of_take r d ht 5 (by omega)
        have hfr : fromL d = (1 + (d.getD 5 0).toNat * halfN (d.getD 4 0).toNat) * 32 := by
          rw [fromL, Nat.add_mul, Nat.mul_assoc]
        have hfl : fromL r = fromL d := by rw [fromL, fromL, r4, r5]
        have hfx : fromL x = fromL d := by rw [fromL, fromL, x4, x5]
        have hrange : ∀ i, i < halfN (d.getD 4 0).toNat → 1 + (d.getD 5 0).toNat * halfN (d.getD 4 0).toNat + i < k := by
          intro i hi
          have h5 : (d.getD 5 0).toNat ≤ 1 := ho.1.2.2.1
          rw [o3] at hneed
          have : (d.getD 5 0).toNat = 0 ∨ (d.getD 5 0).toNat = 1 := by omega
          rcases this with q | q <;> rw [q] <;> omega
        have hsx : sideOf x = sideOf d := by
          rw [sideOf, hfx, x4, sideOf, hfr]
          apply part_of_sec
          intro i hi
          rcases hs _ (hrange i hi) with h | h
          · rw [h]
            rw [sideOf, hfl, r4, sideOf, hfr] at hsd
            exact sec_of_part r d _ _ hsd i hi
          · exact h
        have hox : heldOk x := by
          refine ⟨⟨by omega, by rw [x4]; exact ho.1.2.1, by rw [x5]; exact ho.1.2.2.1, by rw [hx0, x4, x5]; exact ho.1.2.2.2.1, by rw [x4, hx, ← hd]; exact ho.1.2.2.2.2⟩, ?_⟩
          rw [hsx, x4]; exact ho.2
        have hsS : heldS x = heldS d := by rw [heldS, heldS, hsx, x4]
        have hlL : liveL x = liveL d := by rw [liveL, liveL, x5]
        rw [repairR, if_pos (disk_of_len x k hx hk1 hk2), if_neg (by rw [hx0]; exact h0), if_pos hox, hsS, hlL, hx, e]
      · rw [if_neg ho] at hr
        have := congrArg Prod.snd hr
        simp at this
  obtain ⟨hrl, hall⟩ := key
  obtain ⟨ok, len⟩ := changesR_ok d r k 0 k hrl hk2 (Nat.le_refl _) (by omega)
  refine ⟨recsF_enc k _ 100 ok (by omega), fun kq => changes_end d r k 0 hd hrl kq (fun t h => absurd h (Nat.not_lt_zero _)), ?_⟩
  intro m kq hm
  obtain ⟨h1, h2⟩ := changes_mid d r k 0 m hd hrl kq hm
  exact hall _ h1 h2
end Go.Proofs.Ytabpkohcimiceaa
