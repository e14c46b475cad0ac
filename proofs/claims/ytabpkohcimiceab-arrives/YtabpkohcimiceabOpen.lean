import Derived.Test.YtabpkohcimiceabOpenX
namespace Go.Proofs.Ytabpkohcimiceab
set_option maxRecDepth 100000
set_option maxHeartbeats 1000000
open Go.RowKit
set_option linter.unusedVariables false
def openR (d : List UInt8) : Int := if (repairR d).2 = 0 then (if (repairR d).1 = d then (if d = List.replicate d.length 0 then 10 else 0) else 11) else (repairR d).2
theorem zero_take (d : List UInt8) (hl : 32 ≤ d.length) (h : d = List.replicate d.length 0) : d.take 32 = List.replicate 32 0 := by
  rw [h, List.take_replicate, Nat.min_eq_left (by omega)]
theorem disk_len {d : List UInt8} (h : isDiskL d = true) : 32 ≤ d.length ∧ d.length ≤ 1280 ∧ d.length % 32 = 0 := by
  rw [isDiskL, decide_eq_true_eq] at h; omega
theorem open_eq (d : List UInt8) : openErr d = openR d := by
  rw [openErr, openR]
  by_cases hD : isDiskL d = true
  · obtain ⟨z1, z2⟩ := sort_zero d hD; have hl := (disk_len hD).1; rw [if_pos hD]
    by_cases h0 : sortL d = 0
    · rw [z1 h0, h0]; rfl
    · rw [z2 h0]
      simp only [if_true]
      rw [sortL, repL] at *
      by_cases hz : d = List.replicate d.length 0
      · have ht := zero_take d hl hz
        rw [if_pos hz, if_pos ht, if_pos hz.symm, if_pos hz]; rfl
      · rw [if_neg hz, if_neg hz]
        by_cases ht : d.take 32 = List.replicate 32 0
        · have hz' : ¬ List.replicate d.length 0 = d := fun e => hz e.symm
          simp only [if_pos ht, if_neg hz']; rfl
        · rw [if_neg ht, if_neg ht]
          by_cases ho : heldOk d
          · rw [if_pos ho, if_pos ho]
            by_cases hp : d = packL (heldS d) (liveL d) d.length
            · rw [if_pos hp, if_pos hp.symm]; rfl
            · have hp' : ¬ packL (heldS d) (liveL d) d.length = d := fun e => hp e.symm
              simp only [if_neg hp, if_neg hp']; rfl
          · rw [if_neg ho]
            exfalso
            apply h0
            rw [if_neg hz, if_neg ht, if_neg ho]
  · rw [if_neg hD, repairR, if_neg hD]; rfl
structure GoodD (d : List UInt8) (k : Nat) : Prop where
  disk : isDiskL d = true
  len : d.length = k * 32
  k1 : 1 ≤ k
  k2 : k ≤ 40
  held : heldOk d
  pack : d = packL (heldS d) (liveL d) (k * 32)
  ok : StOk (heldS d)
  kept : (heldS d).kept.length ≤ (heldS d).cap
  cap : (heldS d).cap ≤ 30
  live : liveL d ≤ 1
  need : 1 + 2 * halfN (heldS d).cap ≤ k
  law : lawfulL (heldS d) = true
theorem open_good (d : List UInt8) (h : openErr d = 0) : ∃ k, GoodD d k := by
  rw [openErr] at h
  by_cases hD : isDiskL d = true
  · rw [if_pos hD] at h
    obtain ⟨h1, h2, h3⟩ := disk_len hD
    by_cases hs : sortL d = 3
    · rw [sortL] at hs
      by_cases hz : d = List.replicate d.length 0
      · rw [if_pos hz] at hs; omega
      · rw [if_neg hz] at hs
        by_cases ht : d.take 32 = List.replicate 32 0
        · rw [if_pos ht] at hs; omega
        · rw [if_neg ht] at hs
          by_cases ho : heldOk d
          · rw [if_pos ho] at hs
            by_cases hp : d = packL (heldS d) (liveL d) d.length
            · have hlen : d.length = d.length / 32 * 32 := by omega
              obtain ⟨o1, o2, o3⟩ := heldS_ok d ho
              refine ⟨d.length / 32, hD, hlen, by omega, by omega, ho, by rw [← hlen]; exact hp, o1, o2, by rw [o3]; exact ho.1.2.1, ho.1.2.2.1, ?_, ho.2.2.2.1⟩
              rw [o3]; have := ho.1.2.2.2.2; omega
            · rw [if_neg hp] at hs; omega
          · rw [if_neg ho] at hs; omega
    · rw [if_neg hs] at h
      split at h
      · omega
      · split at h <;> omega
  · rw [if_neg hD] at h; omega
theorem good_lawQ {d : List UInt8} {k : Nat} (h : GoodD d k) : LawQ (heldS d) ∧ Keyed (heldS d) := ⟨((law_iff _).1 h.law).1, h.ok.keyed⟩
theorem open_pos (d : List UInt8) : 0 ≤ openErr d ∧ openErr d ≤ 12 := by
  rw [openErr]; repeat' split
  all_goals omega
end Go.Proofs.Ytabpkohcimiceab
