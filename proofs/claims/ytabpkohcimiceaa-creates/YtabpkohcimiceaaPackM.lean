import Derived.Test.YtabpkohcimiceaaHeldM
import Derived.Test.YtabpkohcimiceaaBoxF
namespace Go.Proofs.Ytabpkohcimiceaa
open Go.RowKit
set_option linter.unusedVariables false

/-! ### What is laid is what is held -/
theorem ofNat_toNat (n : Nat) (h : n ≤ 255) : (UInt8.ofNat n).toNat = n := by rw [UInt8.toNat_ofNat']; omega
theorem byte_div (n m : Nat) : (UInt8.ofNat (n / m)).toNat = n / m % 256 := UInt8.toNat_ofNat'
theorem wn_fourN (n : Nat) (h : n < 4294967296) (r : List UInt8) : wn 4 (fourN n ++ r) = n := by
  have e : (BitVec.ofNat 32 n).toNat = n := by rw [BitVec.toNat_ofNat]; omega
  have e1 : fourN n = [UInt8.ofNat (n / 16777216), UInt8.ofNat (n / 65536), UInt8.ofNat (n / 256), UInt8.ofNat n] := by rw [fourN, four, e]
  rw [e1]
  show (((0 * 256 + (UInt8.ofNat (n / 16777216)).toNat) * 256 + (UInt8.ofNat (n / 65536)).toNat) * 256 + (UInt8.ofNat (n / 256)).toNat) * 256 + (UInt8.ofNat n).toNat = n
  rw [byte_div, byte_div, byte_div, UInt8.toNat_ofNat']
  omega
theorem side_parts {s : StM} (h : StOk s) : ∃ z, sideL s = headL s ++ (s.root ++ (s.out ++ (s.inn ++ (fourN s.secret ++ (fourN s.peer ++ (entsL s.kept ++ z)))))) := by
  refine ⟨List.replicate (halfN s.cap * 32 - (bodyL s ++ entsL s.kept).length) 0, ?_⟩
  rw [sideL, fillL, bodyL]
  simp only [List.append_assoc]
theorem drop_app (a b : List UInt8) (n : Nat) (h : a.length = n) : (a ++ b).drop n = b := List.drop_left' h
theorem take_app (a b : List UInt8) (n : Nat) (h : a.length = n) : (a ++ b).take n = a := List.take_left' h
theorem ent_at : ∀ (l : List EntM) (z : List UInt8) (i : Nat), (∀ e ∈ l, e.step ≤ 255 ∧ e.count ≤ 255 ∧ e.key.length = 8) → i < l.length → (entsL l ++ z).drop (10 * i) = entL (l.getD i default) ++ (entsL (l.drop (i + 1)) ++ z)
  | e :: l, z, 0, h, _ => by
    show (entsL (e :: l) ++ z).drop 0 = _
    rw [List.drop_zero, entsL, List.append_assoc]; rfl
  | e :: l, z, i + 1, h, hi => by
    have h8 := (h e List.mem_cons_self).2.2
    have ih := ent_at l z i (fun x hx => h x (List.mem_cons_of_mem _ hx)) (by simpa using hi)
    have e1 : (entL e).length = 10 := by rw [entL]; simp [h8]
    rw [entsL, List.append_assoc, show 10 * (i + 1) = 10 + 10 * i by omega, ← List.drop_drop, drop_app _ _ 10 e1, ih]
    rfl
theorem seen_side {s : StM} (h : StOk s) (hk : s.kept.length ≤ s.cap) : seenS (sideL s) s.cap = s := by
  obtain ⟨z, hz⟩ := side_parts h
  obtain ⟨o0, o1, o2, o3, o4, o5, o6, o7, o8, o9, o10, o11, o12, o13⟩ := h
  have hh : (headL s).length = 8 := rfl
  have d8 : (sideL s).drop 8 = s.root ++ (s.out ++ (s.inn ++ (fourN s.secret ++ (fourN s.peer ++ (entsL s.kept ++ z))))) := by rw [hz, drop_app _ _ 8 hh]
  have d16 : (sideL s).drop 16 = s.out ++ (s.inn ++ (fourN s.secret ++ (fourN s.peer ++ (entsL s.kept ++ z)))) := by
    rw [show 16 = 8 + 8 from rfl, ← List.drop_drop, d8, drop_app _ _ 8 o7]
  have d24 : (sideL s).drop 24 = s.inn ++ (fourN s.secret ++ (fourN s.peer ++ (entsL s.kept ++ z))) := by
    rw [show 24 = 16 + 8 from rfl, ← List.drop_drop, d16, drop_app _ _ 8 o8]
  have d32 : (sideL s).drop 32 = fourN s.secret ++ (fourN s.peer ++ (entsL s.kept ++ z)) := by
    rw [show 32 = 24 + 8 from rfl, ← List.drop_drop, d24, drop_app _ _ 8 o9]
  have d36 : (sideL s).drop 36 = fourN s.peer ++ (entsL s.kept ++ z) := by
    rw [show 36 = 32 + 4 from rfl, ← List.drop_drop, d32, drop_app _ _ 4 rfl]
  have d40 : (sideL s).drop 40 = entsL s.kept ++ z := by
    rw [show 40 = 36 + 4 from rfl, ← List.drop_drop, d36, drop_app _ _ 4 rfl]
  have g : ∀ i, i < 8 → (sideL s).getD i 0 = (headL s).getD i 0 := by
    intro i hi
    rw [hz, getD_app, if_pos (by rw [hh]; exact hi)]
  have g7 : ((sideL s).getD 7 0).toNat = s.kept.length := by rw [g 7 (by omega)]; exact ofNat_toNat _ o12
  have hkept : (List.range s.kept.length).map (entAt (sideL s)) = s.kept := by
    apply List.ext_getElem
    · simp
    · intro i h1 h2
      rw [List.getElem_map, List.getElem_range]
      have hg : s.kept.getD i default = s.kept[i] := by rw [List.getD_eq_getElem?_getD, List.getElem?_eq_getElem h2]; rfl
      obtain ⟨k1, k2, k3⟩ := o13 s.kept[i] (List.getElem_mem h2)
      have hd := ent_at s.kept z i o13 h2
      rw [hg] at hd
      have de : (sideL s).drop (40 + 10 * i) = entL s.kept[i] ++ (entsL (s.kept.drop (i + 1)) ++ z) := by
        rw [← List.drop_drop, d40, hd]
      have e0 : (sideL s).getD (40 + 10 * i) 0 = UInt8.ofNat s.kept[i].step := by
        have := getD_dp (sideL s) (40 + 10 * i) 0
        rw [de] at this
        exact this.symm
      have e1 : (sideL s).getD (41 + 10 * i) 0 = UInt8.ofNat s.kept[i].count := by
        have := getD_dp (sideL s) (40 + 10 * i) 1
        rw [de, show 40 + 10 * i + 1 = 41 + 10 * i by omega] at this
        exact this.symm
      have e2 : ((sideL s).drop (42 + 10 * i)).take 8 = s.kept[i].key := by
        rw [show 42 + 10 * i = 40 + 10 * i + 2 by omega, ← List.drop_drop, de, entL]
        show ((s.kept[i].key ++ _)).take 8 = _
        exact take_app _ _ 8 k3
      rw [entAt, e0, e1, e2, ofNat_toNat _ k1, ofNat_toNat _ k2]
  have hs : seenS (sideL s) s.cap = { role := s.role, step := s.step, sent := s.sent, got := s.got, prev := s.prev, skip := s.skip, cap := s.cap, root := s.root, out := s.out, inn := s.inn, secret := s.secret, peer := s.peer, kept := s.kept } := by
    rw [seenS, seenN, g7, hkept, d8, d16, d24, d32, d36, take_app _ _ 8 o7, take_app _ _ 8 o8, take_app _ _ 8 o9, wn_fourN _ o10, wn_fourN _ o11, g 0 (by omega), g 1 (by omega), g 2 (by omega), g 3 (by omega), g 4 (by omega), g 5 (by omega)]
    show StM.mk (UInt8.ofNat s.role).toNat (UInt8.ofNat s.step).toNat (UInt8.ofNat s.sent).toNat (UInt8.ofNat s.got).toNat (UInt8.ofNat s.prev).toNat (UInt8.ofNat s.skip).toNat _ _ _ _ _ _ _ = _
    rw [ofNat_toNat _ o0, ofNat_toNat _ o1, ofNat_toNat _ o2, ofNat_toNat _ o3, ofNat_toNat _ o4, ofNat_toNat _ o5]
  rw [hs]
theorem side_bytes {s : StM} (h : StOk s) : ((sideL s).getD 6 0).toNat = s.cap ∧ ((sideL s).getD 7 0).toNat = s.kept.length := by
  obtain ⟨z, hz⟩ := side_parts h
  have hh : (headL s).length = 8 := rfl
  have g : ∀ i, i < 8 → (sideL s).getD i 0 = (headL s).getD i 0 := by
    intro i hi
    rw [hz, getD_app, if_pos (by rw [hh]; exact hi)]
  exact ⟨by rw [g 6 (by omega)]; exact ofNat_toNat _ h.cap, by rw [g 7 (by omega)]; exact ofNat_toNat _ h.kept⟩

/-- A disk with a right box: its parts. -/
theorem pack_parts {s : StM} (live k : Nat) (h : StOk s) (hk : s.kept.length ≤ s.cap) (hc : s.cap ≤ 30) (hl : live ≤ 1) (hn : 1 + 2 * halfN s.cap ≤ k) :
    (packL s live (k * 32)).take 32 = topL s.cap live ∧ ((packL s live (k * 32)).getD 4 0).toNat = s.cap ∧ ((packL s live (k * 32)).getD 5 0).toNat = live ∧ sideOf (packL s live (k * 32)) = sideL s := by
  have hx := packL_lay s live (k * 32) h hk
  have hs := sideL_len h hk
  have ht := topL_length s.cap live
  have t32 : (packL s live (k * 32)).take 32 = topL s.cap live := by
    rw [hx, fillL, List.append_assoc, take_app _ _ 32 ht]
  have gt : ∀ i, i < 32 → (packL s live (k * 32)).getD i 0 = (topL s.cap live).getD i 0 := by
    intro i hi
    have := getD_tk (packL s live (k * 32)) 32 i
    rw [if_pos hi, t32] at this
    exact this.symm
  have g4 : ((packL s live (k * 32)).getD 4 0).toNat = s.cap := by
    rw [gt 4 (by omega)]; exact ofNat_toNat _ (by omega)
  have g5 : ((packL s live (k * 32)).getD 5 0).toNat = live := by
    rw [gt 5 (by omega)]; exact ofNat_toNat _ (by omega)
  refine ⟨t32, g4, g5, ?_⟩
  rw [sideOf, fromL, g4, g5]
  have : live = 0 ∨ live = 1 := by omega
  rcases this with rfl | rfl
  · rw [show 32 + 0 * (halfN s.cap * 32) = 32 by omega, hx, if_neg (by omega), fillL, List.append_assoc, drop_app _ _ 32 ht, List.nil_append, take_app _ _ _ hs]
  · rw [hx, if_pos rfl, fillL, List.append_assoc, ← List.drop_drop, drop_app _ _ 32 ht, List.append_assoc, drop_app _ _ _ (by rw [List.length_replicate, hs]; omega), take_app _ _ _ hs]
theorem pack_held {s : StM} (live k : Nat) (h : StOk s) (hk : s.kept.length ≤ s.cap) (hc : s.cap ≤ 30) (hl : live ≤ 1) (hn : 1 + 2 * halfN s.cap ≤ k) (hlaw : lawfulL s = true) :
    heldOk (packL s live (k * 32)) ∧ heldS (packL s live (k * 32)) = s ∧ liveL (packL s live (k * 32)) = live := by
  obtain ⟨p1, p2, p3, p4⟩ := pack_parts live k h hk hc hl hn
  have hlen := packL_length s live k h hk hl hn
  obtain ⟨b6, b7⟩ := side_bytes h
  have hse := seen_side h hk
  refine ⟨⟨⟨by rw [hlen]; omega, by rw [p2]; exact hc, by rw [p3]; exact hl, by rw [p1, p2, p3], by rw [p2, hlen]; omega⟩, ?_⟩, ?_, ?_⟩
  · rw [p4, p2]
    exact ⟨b6, by rw [b7]; exact hk, by rw [hse]; exact hlaw, by rw [hse]⟩
  · rw [heldS, p4, p2, hse]
  · rw [liveL, p3]
theorem top_not (cap live : Nat) : topL cap live ≠ List.replicate 32 0 := by
  intro h
  have := congrArg (fun l => l.getD 0 0) h
  simp [topL, fillL] at this
theorem disk_of_len (x : List UInt8) (k : Nat) (h : x.length = k * 32) (h1 : 1 ≤ k) (h2 : k ≤ 40) : isDiskL x = true := by
  rw [isDiskL, decide_eq_true_eq, h]; omega
theorem repair_pack {s : StM} (live k : Nat) (h : StOk s) (hk : s.kept.length ≤ s.cap) (hc : s.cap ≤ 30) (hl : live ≤ 1) (hn : 1 + 2 * halfN s.cap ≤ k) (hk40 : k ≤ 40) (hlaw : lawfulL s = true) :
    repairR (packL s live (k * 32)) = (packL s live (k * 32), 0) := by
  obtain ⟨q1, q2, q3⟩ := pack_held live k h hk hc hl hn hlaw
  obtain ⟨p1, _⟩ := pack_parts live k h hk hc hl hn
  have hlen := packL_length s live k h hk hl hn
  rw [repairR, if_pos (disk_of_len _ k hlen (by omega) hk40), if_neg (by rw [p1]; exact top_not _ _), if_pos q1, q2, q3, hlen]
theorem repair_zero (x : List UInt8) (k : Nat) (hx : x.length = k * 32) (h1 : 1 ≤ k) (h2 : k ≤ 40) (h0 : secL x 0 = List.replicate 32 0) : repairR x = (List.replicate (k * 32) 0, 0) := by
  have e : x.take 32 = List.replicate 32 0 := by
    have := h0; rw [secL] at this; simpa using this
  rw [repairR, if_pos (disk_of_len x k hx h1 h2), if_pos e, hx]
end Go.Proofs.Ytabpkohcimiceaa
