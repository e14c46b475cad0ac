import Derived.Test.YtabpkohcimiceaaBoxE
import Derived.Test.YtabpkohcimiceaaBoxK
import Derived.Test.YtabpkohcimiceaaBoxC
import Derived.Test.YtabpkohcimiceaaChgW
import Derived.WalkKit
import Derived.WalkSpells
import Derived.WalkLawsBesides
namespace Go.Proofs.Ytabpkohcimiceaa
open Go.RowKit
set_option linter.unusedVariables false

theorem sideL_len {s : StM} (h : StOk s) (hk : s.kept.length ≤ s.cap) : (sideL s).length = halfN s.cap * 32 := by
  have h1 := bodyL_length h
  have h2 := entsL_length s.kept h.keys
  rw [sideL, fillL_length, List.length_append, h1, h2]
  unfold halfN; omega
/-- The good disk with a box, as the program lays it. -/
theorem packL_lay (s : StM) (live n : Nat) (h : StOk s) (hk : s.kept.length ≤ s.cap) :
    packL s live n = fillL (topL s.cap live ++ ((if live = 1 then List.replicate (sideL s).length 0 else []) ++ sideL s)) n := by
  rw [packL]
  congr 1
  by_cases hl : live = 1
  · rw [if_pos hl, if_pos hl, fillL, topL_length, sideL_len h hk, List.append_assoc]
    congr 3
    omega
  · rw [if_neg hl, if_neg hl]; rfl

set_option maxRecDepth 100000 in
set_option maxHeartbeats 1000000 in
theorem lay_any (s : StM) (v : Value) (live k : Nat) (w : World) (hs : StOk s) (hk : s.kept.length ≤ s.cap) (hc : s.cap ≤ 30) (hv : EntsAt w v s.kept) (hl : live ≤ 1) (hn : k ≤ 40) :
    Calls Try.prog 122 #[.agg (stCells s v), .int .i64 live, .int .i64 k] w fun e w' => e = .returned (.string (str (packL s live (k * 32)))) ∧ Below w.heap.size w w' := by
  have c1 := fun w => first_any s.cap live w (by omega) (by omega)
  have c2 := fun w h => boxSide_any s v w hs h
  have hsl := sideL_len hs hk
  have hst := StAt.madeD w s v
  have hbl : Below w.heap.size w (w.alloc (.cells (stCells s v) 106)) := (Below.refl _ _).alloc (Nat.le_refl _) _
  have hv1 := hv.next hbl
  have HP : Hid (packL s live (k * 32) = fillL (topL s.cap live ++ ((if live = 1 then List.replicate (sideL s).length 0 else []) ++ sideL s)) (k * 32)) := packL_lay s live (k * 32) hs hk
  have ht := topL_length s.cap live
  have hh := (show halfN s.cap ≤ 11 by unfold halfN; omega)
  go_enter Try.func122, Try.ntmps122
  go_upto_region 1 with fail
  generalize w.alloc (.cells (stCells s v) 106) = wb at hst hbl hv1 ⊢
  obtain ⟨B, hB⟩ : ∃ B, B = w.heap.size := ⟨_, rfl⟩
  rw [← hB] at hst ⊢
  have HW : Hid (Below w.heap.size w wb) := hbl
  have HS : Hid (StAt wb B s v) := hst
  have HV : Hid (EntsAt wb v s.kept) := hv1
  have h6 := hst.c6
  clear hB hbl hv hv1 hst
  go_upto_region 2 with (go_at_call 150; refine (c1 _).mono ?_; rintro e w1 ⟨rfl, hb1⟩)
  have hst1 := HS.out.next hb1
  have HV1 : Hid (EntsAt w1 v s.kept) := HV.out.next hb1
  have HW1 : Hid (Below w.heap.size w w1) := HW.out.trans (hb1.mono HW.out.size)
  obtain ⟨tp, htp⟩ : ∃ tp, tp = str (topL s.cap live) := ⟨_, rfl⟩
  have htz : tp.size = 32 := by rw [htp, str_size, ht]
  have HT : Hid (tp = str (topL s.cap live)) := htp
  obtain ⟨sd, hsd⟩ : ∃ sd, sd = str (sideL s) := ⟨_, rfl⟩
  have hsz : sd.size ≤ 352 := by rw [hsd, str_size, hsl]; omega
  have HZ : Hid (sd.size = (sideL s).length) := by show _ = _; rw [hsd, str_size]
  have HD : Hid (sd = str (sideL s)) := hsd
  rw [← htp]
  rw [← hsd] at c2
  clear h6 hb1 HS HV HW htp hsd hs hsl
  have tok1 : True := trivial
  obtain ⟨lt, h0, h1, h2, h3, h4, h5, h6, h7, h8, h9, h10, h11, h12⟩ := hst1
  by_cases hl1 : live = 1
  · subst hl1
    have c5 := fun w => noughts_dev (sd.size : Int) w (by omega)
    obtain ⟨z1, hz1⟩ : ∃ z, z = str (List.replicate (sd.size : Int).toNat 0) := ⟨_, rfl⟩
    have hz1s : z1.size = sd.size := by rw [hz1, str_size]; simp
    rw [← hz1] at c5
    have c6 := fun w => noughts_dev ((k : Int) * 32 - (32 + (sd.size : Int) + (sd.size : Int))) w (by omega)
    obtain ⟨z2, hz2⟩ : ∃ z, z = str (List.replicate ((k : Int) * 32 - (32 + (sd.size : Int) + (sd.size : Int))).toNat 0) := ⟨_, rfl⟩
    have hz2s : z2.size ≤ 10000 := by rw [hz2, str_size, List.length_replicate]; omega
    rw [← hz2] at c6
    have HF : Hid (tp ++ z1 ++ sd ++ z2 = str (packL s 1 (k * 32))) := by
      show _ = _
      rw [HP.out, if_pos rfl, fillL, HT.out, hz1, hz2, HZ.out, HD.out]
      simp only [str_append, List.append_assoc]
      congr 5
      simp
      rw [ht]
      omega
    clear hz1 hz2
    go_wp2_with (first | (go_at_call 151; refine (c2 _ HV1.out).mono ?_; rintro e w2 ⟨rfl, hb2⟩) | (go_at_call 130; have _t := tok1; refine (c5 _).mono ?_; rintro e w3 ⟨rfl, hw3⟩; clear tok1) | (go_at_call 130; refine (c6 _).mono ?_; rintro e w4 ⟨rfl, hw4⟩))
    go_ret
    refine ⟨?_, ?_⟩
    · rw [← HF.out]; rfl
    · have hb := HW1.out.trans (hb2.mono HW1.out.size)
      rcases hw3 with rfl | ⟨cc, rfl⟩ <;> rcases hw4 with rfl | ⟨cd, rfl⟩
      · exact hb
      · exact hb.alloc hb.size _
      · exact hb.alloc hb.size _
      · exact (hb.alloc hb.size _).alloc (by have := hb.size; simp; omega) _
  · have hl1' : ¬ (live : Int) = 1 := by omega
    have c6 := fun w => noughts_dev ((k : Int) * 32 - (32 + (sd.size : Int))) w (by omega)
    obtain ⟨z2, hz2⟩ : ∃ z, z = str (List.replicate ((k : Int) * 32 - (32 + (sd.size : Int))).toNat 0) := ⟨_, rfl⟩
    have hz2s : z2.size ≤ 10000 := by rw [hz2, str_size, List.length_replicate]; omega
    rw [← hz2] at c6
    have HF : Hid (tp ++ sd ++ z2 = str (packL s live (k * 32))) := by
      show _ = _
      rw [HP.out, if_neg hl1, fillL, HT.out, hz2, HZ.out, HD.out]
      simp only [str_append, List.append_assoc, List.nil_append]
      congr 4
      rw [List.length_append, ht]
      omega
    clear hz2
    go_wp2_with (first | (go_at_call 151; refine (c2 _ HV1.out).mono ?_; rintro e w2 ⟨rfl, hb2⟩) | (go_at_call 130; refine (c6 _).mono ?_; rintro e w4 ⟨rfl, hw4⟩))
    go_ret
    refine ⟨?_, ?_⟩
    · rw [← HF.out]; rfl
    · have hb := HW1.out.trans (hb2.mono HW1.out.size)
      rcases hw4 with rfl | ⟨cd, rfl⟩
      · exact hb
      · exact hb.alloc hb.size _

theorem packL_length (s : StM) (live k : Nat) (h : StOk s) (hk : s.kept.length ≤ s.cap) (hl : live ≤ 1) (hc : (1 + 2 * halfN s.cap) ≤ k) : (packL s live (k * 32)).length = k * 32 := by
  rw [packL_lay s live _ h hk, fillL_length, List.length_append, List.length_append, topL_length, sideL_len h hk]
  by_cases h1 : live = 1
  · rw [if_pos h1, List.length_replicate]; omega
  · rw [if_neg h1]; simp; omega

set_option maxRecDepth 100000 in
set_option maxHeartbeats 1000000 in
theorem storeCreate_any (d : ByteArray) (s : StM) (v : Value) (k : Nat) (w : World) (hd : d.size = k * 32) (hs : StOk s) (hkc : s.kept.length ≤ s.cap) (hc : s.cap ≤ 30) (hv : EntsAt w v s.kept) (hn : k ≤ 40) (hneed : 1 + 2 * halfN s.cap ≤ k) :
    Calls Try.prog 78 #[.string d, .agg (stCells s v)] w fun e w' => e = .returned (.string (str (changesL d.data.toList (packL s 0 (k * 32)) 1 k ++ changesL d.data.toList (packL s 0 (k * 32)) 0 1))) ∧ Below w.heap.size w w' := by
  have hpl := packL_length s 0 k hs hkc (by omega) hneed
  have c1 := fun w => sectors_any d k w (by unfold maxLen; omega) hd
  have c2 := fun w h => lay_any s v 0 k w hs hkc hc h (by omega) hn
  have c3 := fun w => changes_any d (str (packL s 0 (k * 32))) k 1 k w hd (by rw [str_size]; exact hpl) hn (by omega) (by omega) (by omega)
  have c4 := fun w => changes_any d (str (packL s 0 (k * 32))) k 0 1 w hd (by rw [str_size]; exact hpl) hn (by omega) (by omega) (by omega)
  rw [str_toList] at c3 c4
  have e1 : (1 : Int).toNat = 1 := rfl
  have e0 : (0 : Int).toNat = 0 := rfl
  rw [Int.toNat_natCast, e1] at c3
  rw [e1, e0] at c4
  have hst := StAt.madeD w s v
  have hbl : Below w.heap.size w (w.alloc (.cells (stCells s v) 106)) := (Below.refl _ _).alloc (Nat.le_refl _) _
  have hv1 := hv.next hbl
  have z1 : (changesL d.data.toList (packL s 0 (k * 32)) 1 k).length ≤ 10000 := by
    rw [changesL]; split
    · simp
    · have := chgB_length d.data.toList (packL s 0 (k * 32)) 1 (k - 1); rw [List.length_append]; simp; omega
  have z2 : (changesL d.data.toList (packL s 0 (k * 32)) 0 1).length ≤ 10000 := by
    rw [changesL]; split
    · simp
    · have := chgB_length d.data.toList (packL s 0 (k * 32)) 0 (1 - 0); rw [List.length_append]; simp at *; omega
  have HF : Hid (str (changesL d.data.toList (packL s 0 (k * 32)) 1 k) ++ str (changesL d.data.toList (packL s 0 (k * 32)) 0 1) = str (changesL d.data.toList (packL s 0 (k * 32)) 1 k ++ changesL d.data.toList (packL s 0 (k * 32)) 0 1)) := str_append _ _
  rw [← str_size] at z1 z2
  generalize str (changesL d.data.toList (packL s 0 (k * 32)) 1 k ++ changesL d.data.toList (packL s 0 (k * 32)) 0 1) = pq at *
  generalize str (changesL d.data.toList (packL s 0 (k * 32)) 1 k) = p1 at *
  generalize str (changesL d.data.toList (packL s 0 (k * 32)) 0 1) = p0 at *
  generalize str (packL s 0 (k * 32)) = pk at *
  have tok1 : True := trivial
  go_enter Try.func78, Try.ntmps78
  go_upto_region 1 with fail
  generalize w.alloc (.cells (stCells s v) 106) = wb at hst hbl hv1 ⊢
  obtain ⟨B, hB⟩ : ∃ B, B = w.heap.size := ⟨_, rfl⟩
  rw [← hB] at hst ⊢
  have HW : Hid (Below w.heap.size w wb) := hbl
  have HV : Hid (EntsAt wb v s.kept) := hv1
  clear hB hbl hv hv1 hpl hs
  have kF : Hid (∀ w h, Calls Try.prog 122 #[.agg (stCells s v), .int .i64 (0 : Int), .int .i64 k] w fun e w' => e = .returned (.string pk) ∧ Below w.heap.size w w') := c2
  obtain ⟨lt, h0, h1, h2, h3, h4, h5, h6, h7, h8, h9, h10, h11, h12⟩ := hst
  have c2' := c2 _ HV.out
  clear c2
  go_wp2_with (first | (go_at_call 76; refine (c1 _).mono ?_; rintro e w' ⟨rfl, hw⟩; rw [hw]; clear hw w') | (go_at_call 122; refine c2'.mono ?_; rintro e w2 ⟨rfl, hb2⟩) | (go_at_call 123; have _t := tok1; refine (c3 _).mono ?_; rintro e w3 ⟨rfl, hb3⟩; clear tok1) | (go_at_call 123; refine (c4 _).mono ?_; rintro e w4 ⟨rfl, hb4⟩))
  go_ret
  refine ⟨?_, ?_⟩
  · rw [← HF.out]; rfl
  · exact below_tr (below_tr (HW.out.trans (hb2.mono HW.out.size)) hb3) hb4
end Go.Proofs.Ytabpkohcimiceaa
