import Derived.Test.YtabpkohcimiceabCre
import Derived.Test.YtabpkohcimiceabHeldB
import Derived.Test.YtabpkohcimiceabAgree
import Derived.Test.YtabpkohcimiceabPack
namespace Go.Proofs.Ytabpkohcimiceab
set_option maxRecDepth 100000
set_option maxHeartbeats 1000000
open Go.RowKit
set_option linter.unusedVariables false
theorem newS_lawful (role skip cap peer draw : Nat) (sec : List UInt8) (hr : role ≤ 1) (h1 : skip ≤ 12) (h2 : cap ≤ 30) (h4 : Sec draw) (h5 : role = 0 → Pub peer) : lawfulL (newS role skip cap peer sec draw) = true := by
  have hk : ∀ s : StM, s.kept = [] → keysL s = true := by
    intro s hs
    rw [keysL, hs]
    show (decide (0 ≤ s.cap) && keysF s 0) = true
    simp [keysF]
  rw [newS]
  by_cases h : role = 1
  · rw [if_pos h, lawfulL, hk _ rfl]
    simp [lawA, lawB, lawC, lawD, lawE, lawF, h1, h2, h4]
  · rw [if_neg h, lawfulL, hk _ rfl]
    simp [lawA, lawB, lawC, lawD, lawE, lawF, h1, h2, h4, h5 (by omega)]
theorem cre_ok (d : ByteArray) (role skip cap peer : Int) (sec : ByteArray) (draw : Int) (h : creErr d.data.toList role skip cap peer sec.data.toList draw = 0) :
    ∃ (k : Nat) (s : StM), isDiskL d.data.toList = true ∧ d.size = k * 32 ∧ 1 ≤ k ∧ k ≤ 40 ∧ d.data.toList = List.replicate (k * 32) 0 ∧ StOk s ∧ s.kept = [] ∧ s.cap ≤ 30 ∧ 1 + 2 * halfN s.cap ≤ k ∧ lawfulL s = true ∧
      creTo d.data.toList role skip cap peer sec.data.toList draw = packL s 0 (k * 32) ∧ crePlan d.data.toList role skip cap peer sec.data.toList draw = encL (twoR d.data.toList (packL s 0 (k * 32)) k) := by
  have h' := h
  rw [creErr] at h'
  by_cases hD : isDiskL d.data.toList = true
  · rw [if_pos hD] at h'
    by_cases hA : Allow role skip cap peer draw
    · rw [if_pos hA] at h'
      by_cases h8 : sec.data.toList.length = 8
      · rw [if_pos h8] at h'
        by_cases hs : d.data.toList.length < (1 + 2 * halfN cap.toNat) * 32
        · rw [if_pos hs] at h'; omega
        · rw [if_neg hs] at h'
          by_cases hz : d.data.toList = List.replicate d.data.toList.length 0
          · obtain ⟨k, hk1, hk2, hk3⟩ := disk_factsD hD; have hdl := len_list d; obtain ⟨hse, ⟨s0, s1, a0, a1⟩, hrp⟩ := hA
            have hr1 : role.toNat ≤ 1 := by rcases hrp with ⟨e, _⟩ | ⟨e, _⟩ <;> omega
            have hpe : peer.toNat < 4294967296 := by
              rcases hrp with ⟨_, e⟩ | ⟨_, e⟩
              · have := e.2; omega
              · omega
            have hdr : draw.toNat < 4294967296 := by have := hse.2; omega
            have hsd : Sec (draw.toNat : Int) := by
              have e : (draw.toNat : Int) = draw := by have := hse.1; omega
              rw [e]; exact hse
            have hpp : role.toNat = 0 → Pub (peer.toNat : Int) := by
              intro e
              rcases hrp with ⟨_, hp⟩ | ⟨e2, _⟩
              · have e3 : (peer.toNat : Int) = peer := by have := hp.1; omega
                rw [e3]; exact hp
              · omega
            have hcap := newS_cap role.toNat skip.toNat cap.toNat peer.toNat draw.toNat sec.data.toList
            have hto : creTo d.data.toList role skip cap peer sec.data.toList draw = packL (newS role.toNat skip.toNat cap.toNat peer.toNat sec.data.toList draw.toNat) 0 (k * 32) := by
              rw [creTo, if_pos h, hdl, hk1]
            refine ⟨k, newS role.toNat skip.toNat cap.toNat peer.toNat sec.data.toList draw.toNat, hD, hk1, hk2, hk3, ?_, newS_ok _ _ _ _ _ _ (by omega) (by omega) h8 hdr hpe, newS_kept _ _ _ _ _ _, by rw [hcap]; omega, by rw [hcap]; omega, newS_lawful _ _ _ _ _ _ hr1 (by omega) (by omega) hsd hpp, hto, ?_⟩
            · rw [hdl, hk1] at hz; exact hz
            · rw [crePlan, if_pos h, hto, hdl, hk1, show k * 32 / 32 = k by omega, twoR, encL_append, ← changesL_enc, ← changesL_enc]
          · rw [if_neg hz] at h'; omega
      · rw [if_neg h8] at h'; omega
    · rw [if_neg hA] at h'; omega
  · rw [if_neg hD] at h'; omega
theorem cre_safe (x d : List UInt8) (s : StM) (k : Nat) (hd : d = List.replicate (k * 32) 0) (hk1 : 1 ≤ k) (hk2 : k ≤ 40) (hok : StOk s) (hkept : s.kept = []) (hcap : s.cap ≤ 30) (hneed : 1 + 2 * halfN s.cap ≤ k) (hlaw : lawfulL s = true) (hx : x = packL s 0 (k * 32)) :
    recsL (encL (twoR d x k)) k = some (twoR d x k) ∧ (∀ kq, leftL d (twoR d x k) (twoR d x k).length kq = x) ∧
      ∀ m kq, m ≤ (twoR d x k).length → repairR (leftL d (twoR d x k) m kq) = (d, 0) ∨ repairR (leftL d (twoR d x k) m kq) = (x, 0) := by
  have hkc : s.kept.length ≤ s.cap := by rw [hkept]; exact Nat.zero_le _
  have hxl : x.length = k * 32 := by rw [hx]; exact packL_length s 0 k hok hkc (by omega) hneed
  have hdl : d.length = k * 32 := by rw [hd, List.length_replicate]
  have hd0 : secL d 0 = List.replicate 32 0 := by
    rw [hd, secL, Nat.zero_mul, List.drop_zero, List.take_replicate, Nat.min_eq_left (by omega)]
  have hx0 : secL x 0 = topL s.cap 0 := by
    have := (pack_parts 0 k hok hkc hcap (by omega) hneed).1
    rw [hx, secL, Nat.zero_mul, List.drop_zero]; exact this
  have hne : secL d 0 ≠ secL x 0 := by rw [hd0, hx0]; exact fun h => top_not _ _ h.symm
  obtain ⟨ok1, len1⟩ := changesR_ok d x k 1 k hxl hk2 (Nat.le_refl _) hk1
  obtain ⟨ok0, len0⟩ := changesR_ok d x k 0 1 hxl hk2 hk1 (by omega)
  refine ⟨?_, ?_, ?_⟩
  · refine recsF_enc k _ 100 (fun r hr => (List.mem_append.1 hr).elim (ok1 r) (ok0 r)) ?_
    rw [twoR, List.length_append]; omega
  · intro kq
    exact (two_mid d x k _ hdl hxl hk1 hk2 hne kq (Nat.le_refl _)).2.2 rfl
  · intro m kq hm
    obtain ⟨h1, h2, _⟩ := two_mid d x k m hdl hxl hk1 hk2 hne kq hm
    rcases h2 with h2 | h2
    · refine .inl ?_
      rw [repair_zero _ k h1 hk1 hk2 (by rw [h2, hd0]), hd]
    · refine .inr ?_
      rw [h2, hx]
      exact repair_pack 0 k hok hkc hcap (by omega) hneed hk2 hlaw
end Go.Proofs.Ytabpkohcimiceab
