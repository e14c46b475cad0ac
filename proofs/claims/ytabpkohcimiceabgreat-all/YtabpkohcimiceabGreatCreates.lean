import Derived.Test.YtabpkohcimiceabGreatCre
import Derived.Test.YtabpkohcimiceabGreatLaw
namespace Go.Proofs.YtabpkohcimiceabGreat
set_option maxRecDepth 100000
set_option maxHeartbeats 1000000
open Go.RowKit
set_option linter.unusedVariables false
theorem newS_lawful (role skip cap peer draw : Nat) (sec : List UInt8) (hr : role ≤ 1) (h1 : skip ≤ 12) (h2 : cap ≤ 30) (h4 : Sec draw) (h5 : role = 0 → Pub peer) : lawfulL (newS role skip cap peer sec draw) = true := by
  have hk : ∀ s : StM, s.kept = [] → keysL s = true := by
    intro s hs
    rw [keysL, hs]
    show (decide (0 ≤ s.cap) && keysF s 0) = true
    simp [keysF]
  rw [newS]
  by_cases h : role = 1
  · rw [if_pos h, lawfulL, hk _ rfl]
    simp [lawA, lawB, lawC, lawD, lawE, lawF, h1, h2, h4]
  · rw [if_neg h, lawfulL, hk _ rfl]
    simp [lawA, lawB, lawC, lawD, lawE, lawF, h1, h2, h4, h5 (by omega)]
theorem cre_ok (d : ByteArray) (role skip cap peer : Int) (sec : ByteArray) (draw : Int) (h : creErr d.data.toList role skip cap peer sec.data.toList draw = 0) :
    ∃ (k : Nat) (s : StM), isDiskL d.data.toList = true ∧ d.size = k * 32 ∧ 1 ≤ k ∧ k ≤ 40 ∧ d.data.toList = List.replicate (k * 32) 0 ∧ StOk s ∧ s.kept = [] ∧ s.cap ≤ 30 ∧ 1 + 2 * halfN s.cap ≤ k ∧ lawfulL s = true ∧
      creTo d.data.toList role skip cap peer sec.data.toList draw = packL s 0 (k * 32) ∧ crePlan d.data.toList role skip cap peer sec.data.toList draw = encL (twoR d.data.toList (packL s 0 (k * 32)) k) := by
  have h' := h
  rw [creErr] at h'
  by_cases hD : isDiskL d.data.toList = true
  · rw [if_pos hD] at h'
    by_cases hA : Allow role skip cap peer draw
    · rw [if_pos hA] at h'
      by_cases h8 : sec.data.toList.length = 8
      · rw [if_pos h8] at h'
        by_cases hs : d.data.toList.length < (1 + 2 * halfN cap.toNat) * 32
        · rw [if_pos hs] at h'; omega
        · rw [if_neg hs] at h'
          by_cases hz : d.data.toList = List.replicate d.data.toList.length 0
          · obtain ⟨k, hk1, hk2, hk3⟩ := disk_factsD hD; have hdl := len_list d; obtain ⟨hse, ⟨s0, s1, a0, a1⟩, hrp⟩ := hA
            have hr1 : role.toNat ≤ 1 := by rcases hrp with ⟨e, _⟩ | ⟨e, _⟩ <;> omega
            have hpe : peer.toNat < 4294967296 := by
              rcases hrp with ⟨_, e⟩ | ⟨_, e⟩
              · have := e.2; omega
              · omega
            have hdr : draw.toNat < 4294967296 := by have := hse.2; omega
            have hsd : Sec (draw.toNat : Int) := by
              have e : (draw.toNat : Int) = draw := by have := hse.1; omega
              rw [e]; exact hse
            have hpp : role.toNat = 0 → Pub (peer.toNat : Int) := by
              intro e
              rcases hrp with ⟨_, hp⟩ | ⟨e2, _⟩
              · have e3 : (peer.toNat : Int) = peer := by have := hp.1; omega
                rw [e3]; exact hp
              · omega
            have hcap := newS_cap role.toNat skip.toNat cap.toNat peer.toNat draw.toNat sec.data.toList
            have hto : creTo d.data.toList role skip cap peer sec.data.toList draw = packL (newS role.toNat skip.toNat cap.toNat peer.toNat sec.data.toList draw.toNat) 0 (k * 32) := by
              rw [creTo, if_pos h, hdl, hk1]
            refine ⟨k, newS role.toNat skip.toNat cap.toNat peer.toNat sec.data.toList draw.toNat, hD, hk1, hk2, hk3, ?_, newS_ok _ _ _ _ _ _ (by omega) (by omega) h8 hdr hpe, newS_kept _ _ _ _ _ _, by rw [hcap]; omega, by rw [hcap]; omega, newS_lawful _ _ _ _ _ _ hr1 (by omega) (by omega) hsd hpp, hto, ?_⟩
            · rw [hdl, hk1] at hz; exact hz
            · rw [crePlan, if_pos h, hto, hdl, hk1, show k * 32 / 32 = k by omega, twoR, encL_append, ← changesL_enc, ← changesL_enc]
          · rw [if_neg hz] at h'; omega
      · rw [if_neg h8] at h'; omega
    · rw [if_neg hA] at h'; omega
  · rw [if_neg hD] at h'; omega
theorem cre_safe (x d : List UInt8) (s : StM) (k : Nat) (hd : d = List.replicate (k * 32) 0) (hk1 : 1 ≤ k) (hk2 : k ≤ 40) (hok : StOk s) (hkept : s.kept = []) (hcap : s.cap ≤ 30) (hneed : 1 + 2 * halfN s.cap ≤ k) (hlaw : lawfulL s = true) (hx : x = packL s 0 (k * 32)) :
    recsL (encL (twoR d x k)) k = some (twoR d x k) ∧ (∀ kq, leftL d (twoR d x k) (twoR d x k).length kq = x) ∧
      ∀ m kq, m ≤ (twoR d x k).length → repairR (leftL d (twoR d x k) m kq) = (d, 0) ∨ repairR (leftL d (twoR d x k) m kq) = (x, 0) := by
  have hkc : s.kept.length ≤ s.cap := by rw [hkept]; exact Nat.zero_le _
  have hxl : x.length = k * 32 := by rw [hx]; exact packL_length s 0 k hok hkc (by omega) hneed
  have hdl : d.length = k * 32 := by rw [hd, List.length_replicate]
  have hd0 : secL d 0 = List.replicate 32 0 := by
    rw [hd, secL, Nat.zero_mul, List.drop_zero, List.take_replicate, Nat.min_eq_left (by omega)]
  have hx0 : secL x 0 = topL s.cap 0 := by
    have := (pack_parts 0 k hok hkc hcap (by omega) hneed).1
    rw [hx, secL, Nat.zero_mul, List.drop_zero]; exact this
  have hne : secL d 0 ≠ secL x 0 := by rw [hd0, hx0]; exact fun h => top_not _ _ h.symm
  obtain ⟨ok1, len1⟩ := changesR_ok d x k 1 k hxl hk2 (Nat.le_refl _) hk1
  obtain ⟨ok0, len0⟩ := changesR_ok d x k 0 1 hxl hk2 hk1 (by omega)
  refine ⟨?_, ?_, ?_⟩
  · refine recsF_enc k _ 100 (fun r hr => (List.mem_append.1 hr).elim (ok1 r) (ok0 r)) ?_
    rw [twoR, List.length_append]; omega
  · intro kq
    exact (two_mid d x k _ hdl hxl hk1 hk2 hne kq (Nat.le_refl _)).2.2 rfl
  · intro m kq hm
    obtain ⟨h1, h2, _⟩ := two_mid d x k m hdl hxl hk1 hk2 hne kq hm
    rcases h2 with h2 | h2
    · refine .inl ?_
      rw [repair_zero _ k h1 hk1 hk2 (by rw [h2, hd0]), hd]
    · refine .inr ?_
      rw [h2, hx]
      exact repair_pack 0 k hok hkc hcap (by omega) hneed hk2 hlaw
theorem creErr_bd (d : List UInt8) (role skip cap peer : Int) (sec : List UInt8) (draw : Int) : 0 ≤ creErr d role skip cap peer sec draw ∧ creErr d role skip cap peer sec draw ≤ 9 := by
  unfold creErr
  split
  · split
    · split
      · split
        · omega
        · split <;> omega
      · omega
    · omega
  · omega
theorem needR_bd (n : Int) : 0 ≤ (needR n).2 ∧ (needR n).2 ≤ 3 := by
  unfold needR; split <;> simp
theorem creates_walk (a0 : ByteArray) (b0 b1 b2 b3 : Int) (a2 : ByteArray) (a3 a4 : Int) (a5 : ByteArray) (w0 : a0.size ≤ maxLen) (v0 : (Lit.int .i64 b0).wf = true) (v1 : (Lit.int .i64 b1).wf = true) (v2 : (Lit.int .i64 b2).wf = true) (v3 : (Lit.int .i64 b3).wf = true) (w2 : a2.size ≤ maxLen) (w3 : (Lit.int .i64 a3).wf = true) (w4 : (Lit.int .i64 a4).wf = true) (w5 : a5.size ≤ maxLen) (w : World) :
    Calls Tryz.prog 22 #[.string a0, .agg #[.int .i64 b0, .int .i64 b1, .int .i64 b2, .int .i64 b3], .string a2, .int .i64 a3, .int .i64 a4, .string a5] w fun e w' => e = .returned (.bool true) ∧ Below w.heap.size w w' := by
  have w4' : -9223372036854775808 ≤ a4 ∧ a4 ≤ 9223372036854775807 := by
    simp [Lit.wf, IntKind.min, IntKind.max, IntKind.signed, IntKind.bits] at w4
    omega
  obtain ⟨n0, n1⟩ := w4'; obtain ⟨e0, e1⟩ := needR_bd b2; obtain ⟨f0, f1⟩ := creErr_bd a0.data.toList b0 b1 b2 b3 a2.data.toList a3
  have c1 := fun w => pawlNeed_any b2 w
  have c2 := fun w => refNeed_any b2 w
  have c3 := fun w => pawlCreate_any a0 b0 b1 b2 b3 a2 a3 w w0 w2
  have c4 := fun w => refCreate_any a0 b0 b1 b2 b3 a2 a3 w w0 w2
  unfold cfgCells at c3
  generalize needR b2 = N at *
  obtain ⟨N1, N2⟩ := N
  simp only at c1 c2 e0 e1
  by_cases hok : creErr a0.data.toList b0 b1 b2 b3 a2.data.toList a3 = 0
  · obtain ⟨k, s, hD, hk, hk1, hk2, hz, so, skept, scap, sneed, slaw, hto, hplan⟩ := cre_ok a0 b0 b1 b2 b3 a2 a3 hok; obtain ⟨r1, r2, r3⟩ := cre_safe (packL s 0 (k * 32)) a0.data.toList s k hz hk1 hk2 so skept scap sneed slaw rfl
    rw [hto, hok] at c4
    rw [hplan, hok] at c3
    have hps : (str (encL (twoR a0.data.toList (packL s 0 (k * 32)) k))).size ≤ maxLen := by
      rw [str_size, ← hplan, crePlan, if_pos hok, List.length_append]
      have z : ∀ lo m, (changesL a0.data.toList (creTo a0.data.toList b0 b1 b2 b3 a2.data.toList a3) lo m).length ≤ (m - lo) * 33 + 1 := by
        intro lo m
        have := chgB_length a0.data.toList (creTo a0.data.toList b0 b1 b2 b3 a2.data.toList a3) lo (m - lo)
        rw [changesL]; split
        · simp
        · rw [List.length_append]; simp; omega
      have z1 := z 1 (a0.data.toList.length / 32); have z2 := z 0 1
      rw [len_list, hk] at z1
      rw [len_list, hk]
      unfold maxLen; omega
    have c5 := fun w => safe_any a0 a0 (str (packL s 0 (k * 32))) (str (encL (twoR a0.data.toList (packL s 0 (k * 32)) k))) (twoR a0.data.toList (packL s 0 (k * 32)) k) k a4 a5 w hD hk hk2 hps (by rw [str_toList]; exact r1) n0 n1 w5 (by rw [str_toList]; exact r2) (by rw [str_toList]; exact r3)
    generalize str (encL (twoR a0.data.toList (packL s 0 (k * 32)) k)) = pl at *
    generalize str (packL s 0 (k * 32)) = tt at *
    clear r1 r2 r3 hto hplan hok hz so skept scap sneed slaw hD hk hps f0 f1
    go_enter Tryz.func22, Tryz.ntmps22
    go_wp2_with (first | (go_at_call 49; refine (c1 _).mono ?_; rintro e w' ⟨rfl, hw⟩; rw [hw]; clear hw w') | (go_at_call 50; refine (c2 _).mono ?_; rintro e w' ⟨rfl, hw⟩; rw [hw]; clear hw w') | (go_at_call 23; with_reducible refine (c3 _).mono ?_; rintro e x1 ⟨rfl, hb1⟩; have k0 := hb1.cell (p := ⟨w.heap.size, 0, none⟩) (by simp); have k1 := hb1.cell (p := ⟨w.heap.size, 1, none⟩) (by simp); have k2 := hb1.cell (p := ⟨w.heap.size, 2, none⟩) (by simp); have k3 := hb1.cell (p := ⟨w.heap.size, 3, none⟩) (by simp); simp [go_sem] at k0 k1 k2 k3) | (go_at_call 51; refine (c4 _).mono ?_; rintro e x2 ⟨rfl, hb2⟩) | (go_at_call 52; refine (c5 _).mono ?_; rintro e x3 ⟨rfl, hb3⟩) | go_in)
    go_ret
    refine ⟨rfl, ?_⟩
    exact below_tr (below_tr (below_tr ((Below.refl _ _).alloc (Nat.le_refl _) _) hb1) hb2) hb3
  · have e3 : crePlan a0.data.toList b0 b1 b2 b3 a2.data.toList a3 = [] := by rw [crePlan, if_neg hok]
    have e4 : creTo a0.data.toList b0 b1 b2 b3 a2.data.toList a3 = [] := by rw [creTo, if_neg hok]
    rw [e3] at c3
    rw [e4] at c4
    generalize creErr a0.data.toList b0 b1 b2 b3 a2.data.toList a3 = E at *
    have hokB : (E == 0) = false := by rw [beq_eq_false_iff_ne]; exact hok
    have c3' : ∀ w, Calls Tryz.prog 23 #[.string a0, .agg #[.int .i64 b0, .int .i64 b1, .int .i64 b2, .int .i64 b3], .string a2, .int .i64 a3] w fun e w' => e = .returned (.tuple #[.string ⟨#[]⟩, .int .i64 E]) ∧ Below w.heap.size w w' := c3
    clear e3 e4 c3
    go_enter Tryz.func22, Tryz.ntmps22
    go_wp2_with (first | (go_at_call 49; refine (c1 _).mono ?_; rintro e w' ⟨rfl, hw⟩; rw [hw]; clear hw w') | (go_at_call 50; refine (c2 _).mono ?_; rintro e w' ⟨rfl, hw⟩; rw [hw]; clear hw w') | (go_at_call 23; with_reducible refine (c3' _).mono ?_; rintro e x1 ⟨rfl, hb1⟩; have k0 := hb1.cell (p := ⟨w.heap.size, 0, none⟩) (by simp); have k1 := hb1.cell (p := ⟨w.heap.size, 1, none⟩) (by simp); have k2 := hb1.cell (p := ⟨w.heap.size, 2, none⟩) (by simp); have k3 := hb1.cell (p := ⟨w.heap.size, 3, none⟩) (by simp); simp [go_sem] at k0 k1 k2 k3) | (go_at_call 51; refine (c4 _).mono ?_; rintro e x2 ⟨rfl, hb2⟩) | go_in)
    go_ret
    refine ⟨rfl, ?_⟩
    exact below_tr (below_tr ((Below.refl _ _).alloc (Nat.le_refl _) _) hb1) hb2
end Go.Proofs.YtabpkohcimiceabGreat
