import Derived.Test.YtabpkohcimiceabBoxE
import Derived.Test.YtabpkohcimiceabBoxB
import Derived.Test.YtabpkohcimiceabPlanA
import Derived.Deep.QuietTactic
import Derived.BigQuiet
import Derived.Laws.ResultCell
namespace Go.Proofs.Ytabpkohcimiceab
set_option maxRecDepth 100000
set_option maxHeartbeats 1000000
open Go.RowKit
set_option linter.unusedVariables false
theorem sideL_len {s : StM} (h : StOk s) (hk : s.kept.length ≤ s.cap) : (sideL s).length = halfN s.cap * 32 := by
  have h1 := bodyL_length h; have h2 := entsL_length s.kept h.keys; rw [sideL, fillL_length, List.length_append, h1, h2]
  unfold halfN; omega
theorem packL_lay (s : StM) (live n : Nat) (h : StOk s) (hk : s.kept.length ≤ s.cap) :
    packL s live n = fillL (topL s.cap live ++ ((if live = 1 then List.replicate (sideL s).length 0 else []) ++ sideL s)) n := by
  rw [packL]
  congr 1
  by_cases hl : live = 1
  · rw [if_pos hl, if_pos hl, fillL, topL_length, sideL_len h hk, List.append_assoc]
    congr 3
    omega
  · rw [if_neg hl, if_neg hl]; rfl
theorem lay_any (s : StM) (v : Value) (live k : Nat) (w : World) (hs : StOk s) (hk : s.kept.length ≤ s.cap) (hc : s.cap ≤ 30) (hv : EntsAt w v s.kept) (hl : live ≤ 1) (hn : k ≤ 40) :
    Calls Try.prog 58 #[.agg (stCells s v), .int .i64 live, .int .i64 k] w fun e w' => e = .returned (.string (str (packL s live (k * 32)))) ∧ Below w.heap.size w w' := by
  have c1 := fun w => first_any s.cap live w (by omega) (by omega)
  have c2 := fun w h => boxSide_any s v w hs h
  have hsl := sideL_len hs hk; have hst := StAt.madeD w s v; have hbl : Below w.heap.size w (w.alloc (.cells (stCells s v) 84)) := (Below.refl _ _).alloc (Nat.le_refl _) _; have hv1 := hv.next hbl
  have HP : Hid (packL s live (k * 32) = fillL (topL s.cap live ++ ((if live = 1 then List.replicate (sideL s).length 0 else []) ++ sideL s)) (k * 32)) := packL_lay s live (k * 32) hs hk
  have ht := topL_length s.cap live
  have hh := (show halfN s.cap ≤ 11 by unfold halfN; omega)
  go_enter Try.func58, Try.ntmps58
  go_upto_region 1 with fail
  generalize w.alloc (.cells (stCells s v) 84) = wb at hst hbl hv1 ⊢
  obtain ⟨B, hB⟩ : ∃ B, B = w.heap.size := ⟨_, rfl⟩
  rw [← hB] at hst ⊢
  have HW := hid hbl; have HS : Hid (StAt wb B s v) := hst; have HV := hid hv1; have h6 := hst.c6; clear hB hbl hv hv1 hst
  go_upto_region 2 with (go_at_call 84; refine (c1 _).mono ?_; rintro e w1 ⟨rfl, hb1⟩)
  have hst1 := HS.out.next hb1; have HV1 : Hid (EntsAt w1 v s.kept) := HV.out.next hb1; have HW1 : Hid (Below w.heap.size w w1) := HW.out.trans (hb1.mono HW.out.size)
  obtain ⟨tp, htp⟩ : ∃ tp, tp = str (topL s.cap live) := ⟨_, rfl⟩
  have htz : tp.size = 32 := by rw [htp, str_size, ht]
  have HT : Hid (tp = str (topL s.cap live)) := htp
  obtain ⟨sd, hsd⟩ : ∃ sd, sd = str (sideL s) := ⟨_, rfl⟩
  have hsz : sd.size ≤ 352 := by rw [hsd, str_size, hsl]; omega
  have HZ : Hid (sd.size = (sideL s).length) := by show _ = _; rw [hsd, str_size]
  have HD : Hid (sd = str (sideL s)) := hsd; rw [← htp]
  rw [← hsd] at c2
  clear h6 hb1 HS HV HW htp hsd hs hsl; have tok1 : True := trivial; obtain ⟨lt, h0, h1, h2, h3, h4, h5, h6, h7, h8, h9, h10, h11, h12⟩ := hst1
  by_cases hl1 : live = 1
  · subst hl1
    have c5 := fun w => noughts_dev (sd.size : Int) w (by omega)
    obtain ⟨z1, hz1⟩ : ∃ z, z = str (List.replicate (sd.size : Int).toNat 0) := ⟨_, rfl⟩
    have hz1s : z1.size = sd.size := by rw [hz1, str_size]; simp
    rw [← hz1] at c5
    have c6 := fun w => noughts_dev ((k : Int) * 32 - (32 + (sd.size : Int) + (sd.size : Int))) w (by omega)
    obtain ⟨z2, hz2⟩ : ∃ z, z = str (List.replicate ((k : Int) * 32 - (32 + (sd.size : Int) + (sd.size : Int))).toNat 0) := ⟨_, rfl⟩
    have hz2s : z2.size ≤ 10000 := by rw [hz2, str_size, List.length_replicate]; omega
    rw [← hz2] at c6
    have HF : Hid (tp ++ z1 ++ sd ++ z2 = str (packL s 1 (k * 32))) := by
      show _ = _
      rw [HP.out, if_pos rfl, fillL, HT.out, hz1, hz2, HZ.out, HD.out]
      simp only [str_append, List.append_assoc]
      congr 5
      simp
      rw [ht]
      omega
    clear hz1 hz2
    go_wp2_with (first | (go_at_call 85; refine (c2 _ HV1.out).mono ?_; rintro e w2 ⟨rfl, hb2⟩) | (go_at_call 77; have _t := tok1; refine (c5 _).mono ?_; rintro e w3 ⟨rfl, hw3⟩; clear tok1) | (go_at_call 77; refine (c6 _).mono ?_; rintro e w4 ⟨rfl, hw4⟩))
    go_ret
    refine ⟨?_, ?_⟩
    · rw [← HF.out]; rfl
    · have hb := HW1.out.trans (hb2.mono HW1.out.size)
      rcases hw3 with rfl | ⟨cc, rfl⟩ <;> rcases hw4 with rfl | ⟨cd, rfl⟩
      · exact hb
      · exact hb.alloc hb.size _
      · exact hb.alloc hb.size _
      · exact (hb.alloc hb.size _).alloc (by have := hb.size; simp; omega) _
  · have hl1' : ¬ (live : Int) = 1 := by omega
    have c6 := fun w => noughts_dev ((k : Int) * 32 - (32 + (sd.size : Int))) w (by omega)
    obtain ⟨z2, hz2⟩ : ∃ z, z = str (List.replicate ((k : Int) * 32 - (32 + (sd.size : Int))).toNat 0) := ⟨_, rfl⟩
    have hz2s : z2.size ≤ 10000 := by rw [hz2, str_size, List.length_replicate]; omega
    rw [← hz2] at c6
    have HF : Hid (tp ++ sd ++ z2 = str (packL s live (k * 32))) := by
      show _ = _
      rw [HP.out, if_neg hl1, fillL, HT.out, hz2, HZ.out, HD.out]
      simp only [str_append, List.append_assoc, List.nil_append]
      congr 4
      rw [List.length_append, ht]
      omega
    clear hz2
    go_wp2_with (first | (go_at_call 85; refine (c2 _ HV1.out).mono ?_; rintro e w2 ⟨rfl, hb2⟩) | (go_at_call 77; refine (c6 _).mono ?_; rintro e w4 ⟨rfl, hw4⟩))
    go_ret
    refine ⟨?_, ?_⟩
    · rw [← HF.out]; rfl
    · have hb := HW1.out.trans (hb2.mono HW1.out.size)
      rcases hw4 with rfl | ⟨cd, rfl⟩
      · exact hb
      · exact hb.alloc hb.size _
theorem packL_length (s : StM) (live k : Nat) (h : StOk s) (hk : s.kept.length ≤ s.cap) (hl : live ≤ 1) (hc : (1 + 2 * halfN s.cap) ≤ k) : (packL s live (k * 32)).length = k * 32 := by
  rw [packL_lay s live _ h hk, fillL_length, List.length_append, List.length_append, topL_length, sideL_len h hk]
  by_cases h1 : live = 1
  · rw [if_pos h1, List.length_replicate]; omega
  · rw [if_neg h1]; simp; omega
theorem storeCreate_any (d : ByteArray) (s : StM) (v : Value) (k : Nat) (w : World) (hd : d.size = k * 32) (hs : StOk s) (hkc : s.kept.length ≤ s.cap) (hc : s.cap ≤ 30) (hv : EntsAt w v s.kept) (hn : k ≤ 40) (hneed : 1 + 2 * halfN s.cap ≤ k) :
    Calls Try.prog 75 #[.string d, .agg (stCells s v)] w fun e w' => e = .returned (.string (str (changesL d.data.toList (packL s 0 (k * 32)) 1 k ++ changesL d.data.toList (packL s 0 (k * 32)) 0 1))) ∧ Below w.heap.size w w' := by
  have hpl := packL_length s 0 k hs hkc (by omega) hneed
  have c1 := fun w => sectors_any d k w (by unfold maxLen; omega) hd
  have c2 := fun w h => lay_any s v 0 k w hs hkc hc h (by omega) hn
  have c3 := fun w => changes_any d (str (packL s 0 (k * 32))) k 1 k w hd (by rw [str_size]; exact hpl) hn (by omega) (by omega) (by omega)
  have c4 := fun w => changes_any d (str (packL s 0 (k * 32))) k 0 1 w hd (by rw [str_size]; exact hpl) hn (by omega) (by omega) (by omega)
  rw [str_toList] at c3 c4
  have e1 : (1 : Int).toNat = 1 := rfl; have e0 : (0 : Int).toNat = 0 := rfl
  rw [Int.toNat_natCast, e1] at c3
  rw [e1, e0] at c4
  have hst := StAt.madeD w s v; have hbl : Below w.heap.size w (w.alloc (.cells (stCells s v) 84)) := (Below.refl _ _).alloc (Nat.le_refl _) _; have hv1 := hv.next hbl
  have z1 : (changesL d.data.toList (packL s 0 (k * 32)) 1 k).length ≤ 10000 := by
    rw [changesL]; split
    · simp
    · have := chgB_length d.data.toList (packL s 0 (k * 32)) 1 (k - 1); rw [List.length_append]; simp; omega
  have z2 : (changesL d.data.toList (packL s 0 (k * 32)) 0 1).length ≤ 10000 := by
    rw [changesL]; split
    · simp
    · have := chgB_length d.data.toList (packL s 0 (k * 32)) 0 (1 - 0); rw [List.length_append]; simp at *; omega
  have HF : Hid (str (changesL d.data.toList (packL s 0 (k * 32)) 1 k) ++ str (changesL d.data.toList (packL s 0 (k * 32)) 0 1) = str (changesL d.data.toList (packL s 0 (k * 32)) 1 k ++ changesL d.data.toList (packL s 0 (k * 32)) 0 1)) := str_append _ _
  rw [← str_size] at z1 z2
  generalize str (changesL d.data.toList (packL s 0 (k * 32)) 1 k ++ changesL d.data.toList (packL s 0 (k * 32)) 0 1) = pq at *
  generalize str (changesL d.data.toList (packL s 0 (k * 32)) 1 k) = p1 at *
  generalize str (changesL d.data.toList (packL s 0 (k * 32)) 0 1) = p0 at *
  generalize str (packL s 0 (k * 32)) = pk at *
  have tok1 : True := trivial
  go_enter Try.func75, Try.ntmps75
  go_upto_region 1 with fail
  generalize w.alloc (.cells (stCells s v) 84) = wb at hst hbl hv1 ⊢
  obtain ⟨B, hB⟩ : ∃ B, B = w.heap.size := ⟨_, rfl⟩
  rw [← hB] at hst ⊢
  have HW := hid hbl; have HV := hid hv1; clear hB hbl hv hv1 hpl hs
  have kF : Hid (∀ w h, Calls Try.prog 58 #[.agg (stCells s v), .int .i64 0, .int .i64 k] w fun e w' => e = .returned (.string pk) ∧ Below w.heap.size w w') := c2
  obtain ⟨lt, h0, h1, h2, h3, h4, h5, h6, h7, h8, h9, h10, h11, h12⟩ := hst; have c2' := c2 _ HV.out; clear c2
  go_wp2_with (first | (go_at_call 59; refine (c1 _).mono ?_; rintro e w' ⟨rfl, hw⟩; rw [hw]; clear hw w') | (go_at_call 58; refine c2'.mono ?_; rintro e w2 ⟨rfl, hb2⟩) | (go_at_call 61; have _t := tok1; refine (c3 _).mono ?_; rintro e w3 ⟨rfl, hb3⟩; clear tok1) | (go_at_call 61; refine (c4 _).mono ?_; rintro e w4 ⟨rfl, hb4⟩))
  go_ret
  refine ⟨?_, ?_⟩
  · rw [← HF.out]; rfl
  · exact below_tr (below_tr (HW.out.trans (hb2.mono HW.out.size)) hb3) hb4
def newS (role skip cap peer : Nat) (sec : List UInt8) (draw : Nat) : StM :=
  if role = 1 then { role := 1, step := 0, sent := 0, got := 0, prev := 0, skip := skip, cap := cap, root := sec, out := noneL, inn := noneL, secret := draw, peer := 0, kept := [] }
  else { role := 0, step := 1, sent := 0, got := 0, prev := 0, skip := skip, cap := cap, root := rootL sec (pwN peer draw), out := chainL sec (pwN peer draw), inn := noneL, secret := draw, peer := peer, kept := [] }
theorem newS_ok (role skip cap peer draw : Nat) (sec : List UInt8) (h1 : skip ≤ 12) (h2 : cap ≤ 30) (h3 : sec.length = 8) (h4 : draw < 4294967296) (h5 : peer < 4294967296) : StOk (newS role skip cap peer sec draw) := by
  rw [newS]
  split
  · exact ⟨by show 1 ≤ 255; omega, Nat.zero_le _, Nat.zero_le _, Nat.zero_le _, Nat.zero_le _, by show skip ≤ 255; omega, by show cap ≤ 255; omega, h3, rfl, rfl, h4, by show 0 < 4294967296; omega, Nat.zero_le _, by intro e he; simp at he⟩
  · exact ⟨Nat.zero_le _, by show 1 ≤ 255; omega, Nat.zero_le _, Nat.zero_le _, Nat.zero_le _, by show skip ≤ 255; omega, by show cap ≤ 255; omega, mixed_length _ _, mixed_length _ _, rfl, h4, h5, Nat.zero_le _, by intro e he; simp at he⟩
theorem newS_cap (role skip cap peer draw : Nat) (sec : List UInt8) : (newS role skip cap peer sec draw).cap = cap := by rw [newS]; split <;> rfl
theorem newS_kept (role skip cap peer draw : Nat) (sec : List UInt8) : (newS role skip cap peer sec draw).kept = [] := by rw [newS]; split <;> rfl
theorem devIsSecret_any (x : Int) (w : World) : Calls Try.prog 42 #[.int .i64 x] w fun e w' => e = .returned (.bool (decide (Sec x))) ∧ w' = w := by
  by_cases h1 : 1 ≤ x
  · by_cases h2 : x ≤ 2147483645
    · rw [decide_eq_true (show Sec x from ⟨h1, h2⟩)]
      go_enter Try.func42, Try.ntmps42
      go_wp2; go_ret; exact ⟨rfl, rfl⟩
    · rw [decide_eq_false (fun h : Sec x => h2 h.2)]
      have h2' : decide (x ≤ 2147483645) = false := decide_eq_false h2
      go_enter Try.func42, Try.ntmps42
      go_wp2; go_ret; exact ⟨rfl, rfl⟩
  · rw [decide_eq_false (fun h : Sec x => h1 h.1)]
    go_enter Try.func42, Try.ntmps42
    go_wp2; go_ret; exact ⟨rfl, rfl⟩
theorem devIsPublic_any (x : Int) (w : World) : Calls Try.prog 87 #[.int .i64 x] w fun e w' => e = .returned (.bool (decide (Pub x))) ∧ w' = w := by
  by_cases h1 : 1 ≤ x
  · by_cases h2 : x ≤ 2147483646
    · rw [decide_eq_true (show Pub x from ⟨h1, h2⟩)]
      go_enter Try.func87, Try.ntmps87
      go_wp2; go_ret; exact ⟨rfl, rfl⟩
    · rw [decide_eq_false (fun h : Pub x => h2 h.2)]
      have h2' : decide (x ≤ 2147483646) = false := decide_eq_false h2
      go_enter Try.func87, Try.ntmps87
      go_wp2; go_ret; exact ⟨rfl, rfl⟩
  · rw [decide_eq_false (fun h : Pub x => h1 h.1)]
    go_enter Try.func87, Try.ntmps87
    go_wp2; go_ret; exact ⟨rfl, rfl⟩
theorem devShared_any (x y : Nat) (w : World) (hx : x < 2147483647) (hy : y < 2147483647) : Calls Try.prog 94 #[.int .i64 x, .int .i64 y] w fun e w' => e = .returned (.int .i64 (pwN y x)) ∧ w' = w := by
  have c1 := fun w => power_any y x w hy hx
  go_enter Try.func94, Try.ntmps94
  go_wp2_with (first | (go_at_call 71; refine (c1 _).mono ?_; rintro e w' ⟨rfl, hw⟩; rw [hw]; clear hw w'))
  go_ret; exact ⟨rfl, rfl⟩
attribute [local go_sem] str_fourN_size
theorem turn_any (r : ByteArray) (d : Nat) (w : World) (hr : r.size = 8) (hd : d < 4294967296) :
    Calls Try.prog 93 #[.string r, .int .i64 d] w fun e w' => e = .returned (.tuple #[.string (str (chainL r.data.toList d)), .string (str (rootL r.data.toList d))]) ∧ Below w.heap.size w w' := by
  have z4 : (str (fourN d)).size = 4 := rfl; have hw1 := wrap_u32 d hd
  have c0 := fun w => text_nat d w hd
  have c1 := fun w => keysMix_any r ((⟨#[99]⟩ : ByteArray) ++ str (fourN d)) w (by rw [hr]; unfold maxLen; omega) (by rw [one_front_size, fourN_length]; omega)
  have c2 := fun w => keysMix_any r ((⟨#[114]⟩ : ByteArray) ++ str (fourN d)) w (by rw [hr]; unfold maxLen; omega) (by rw [one_front_size, fourN_length]; omega)
  rw [one_front] at c1 c2
  have tok1 : True := trivial
  go_enter Try.func93, Try.ntmps93
  go_wp2_with (first | (go_at_call 80; refine (c0 _).mono ?_; rintro e w1 ⟨rfl, x1, rfl⟩) | (go_at_call 81; have _t := tok1; refine (c1 _).mono ?_; rintro e w2 ⟨rfl, hb1⟩; clear tok1) | (go_at_call 81; refine (c2 _).mono ?_; rintro e w3 ⟨rfl, hb2⟩))
  go_ret2; exact ⟨rfl, below_tr (below_tr ((Below.refl _ _).alloc (Nat.le_refl _) _) hb1) hb2⟩
def zeroD13 : Array Value := #[.int .i64 0, .int .i64 0, .int .i64 0, .int .i64 0, .int .i64 0, .int .i64 0, .int .i64 0, .string ⟨#[]⟩, .string ⟨#[]⟩, .string ⟨#[]⟩, .int .i64 0, .int .i64 0, .slice none 0 0]
def cfgCells (role skip cap peer : Int) : Array Value := #[.int .i64 role, .int .i64 skip, .int .i64 cap, .int .i64 peer]
theorem new_any (role skip cap peer draw : Nat) (sec : ByteArray) (w : World) (hr : role ≤ 1) (h3 : sec.size = 8) (h4 : Sec draw) (h5 : role = 0 → Pub peer) :
    Calls Try.prog 76 #[.agg (cfgCells role skip cap peer), .string sec, .int .i64 draw] w fun e w' => e = .returned (.agg (stCells (newS role skip cap peer sec.data.toList draw) (.slice none 0 0))) ∧ Below w.heap.size w w' := by
  unfold cfgCells
  by_cases h1 : role = 1
  · subst h1
    have e : newS 1 skip cap peer sec.data.toList draw = { role := 1, step := 0, sent := 0, got := 0, prev := 0, skip := skip, cap := cap, root := sec.data.toList, out := noneL, inn := noneL, secret := draw, peer := 0, kept := [] } := by rw [newS, if_pos rfl]
    rw [e]; clear e h5
    go_enter Try.func76, Try.ntmps76
    go_wp2
    (try simp only [Exit.inBlock, Exit.then])
    refine bodyPost_ret (v := .agg (stCells { role := 1, step := 0, sent := 0, got := 0, prev := 0, skip := skip, cap := cap, root := sec.data.toList, out := noneL, inn := noneL, secret := draw, peer := 0, kept := [] } (.slice none 0 0))) ?_ ?_ ?_
    · simp [results, go_sem, stCells, str_of]
      rfl
    · rfl
    · refine ⟨rfl, ?_⟩
      repeat (first | exact Below.refl _ _ | apply Below.drew | (refine Below.setCell ?_ (by simp) _) | (refine Below.alloc ?_ (by first | exact Nat.le_refl _ | (simp; done) | (simp; omega)) _))
  · obtain rfl : role = 0 := by omega
    obtain ⟨p1, p2⟩ := h5 rfl; obtain ⟨q1, q2⟩ := h4
    have e : newS 0 skip cap peer sec.data.toList draw = { role := 0, step := 1, sent := 0, got := 0, prev := 0, skip := skip, cap := cap, root := rootL sec.data.toList (pwN peer draw), out := chainL sec.data.toList (pwN peer draw), inn := noneL, secret := draw, peer := peer, kept := [] } := by rw [newS, if_neg (by omega)]
    rw [e]; have hpw := pwN_lt peer draw
    have c1 := fun w => devShared_any draw peer w (by omega) (by omega)
    have c2 := fun w => turn_any sec (pwN peer draw) w h3 (by omega)
    clear e h5 h1
    generalize pwN peer draw = dd at *
    generalize chainL sec.data.toList dd = ch at *
    generalize rootL sec.data.toList dd = ro at *
    go_enter Try.func76, Try.ntmps76
    go_upto_region 5 with (first | (go_at_call 94; refine (c1 _).mono ?_; rintro e w' ⟨rfl, hw⟩; rw [hw]; clear hw w') | (go_at_call 93; refine (c2 _).mono ?_; rintro e w2 ⟨rfl, hb2⟩))
    have hX : w2.heap[w.heap.size]? = some (.cells #[.int .i64 0, .int .i64 skip, .int .i64 cap, .int .i64 peer] 57) ∧ w2.heap[w.heap.size + 1]? = some (.cells zeroD13 84) ∧ w2.heap[w.heap.size + 1 + 1]? = some (.cells #[.int .i64 0, .int .i64 0, .int .i64 0, .int .i64 0, .int .i64 0, .int .i64 skip, .int .i64 cap, .string sec, .string (str noneL), .string (str noneL), .int .i64 draw, .int .i64 0, .slice none 0 0] 84) := by
      refine ⟨?_, ?_, ?_⟩
      · refine (hb2.block _ (by simp; omega)).trans ?_
        exact ((Below.heap_alloc _ _ _ (by simp; omega)).trans (Below.heap_alloc _ _ _ (by simp))).trans (heap_alloc_new w _)
      · refine (hb2.block _ (by simp)).trans ?_
        refine (Below.heap_alloc _ _ _ (by simp)).trans ?_
        have := heap_alloc_new (w.alloc (.cells #[.int .i64 0, .int .i64 skip, .int .i64 cap, .int .i64 peer] 57)) (.cells zeroD13 84)
        have e : (w.alloc (.cells #[.int .i64 0, .int .i64 skip, .int .i64 cap, .int .i64 peer] 57)).heap.size = w.heap.size + 1 := by simp
        rw [e] at this
        exact this
      · refine (hb2.block _ (by simp)).trans ?_
        have := heap_alloc_new ((w.alloc (.cells #[.int .i64 0, .int .i64 skip, .int .i64 cap, .int .i64 peer] 57)).alloc (.cells zeroD13 84)) (.cells #[.int .i64 0, .int .i64 0, .int .i64 0, .int .i64 0, .int .i64 0, .int .i64 skip, .int .i64 cap, .string sec, .string (str noneL), .string (str noneL), .int .i64 draw, .int .i64 0, .slice none 0 0] 84)
        have e : ((w.alloc (.cells #[.int .i64 0, .int .i64 skip, .int .i64 cap, .int .i64 peer] 57)).alloc (.cells zeroD13 84)).heap.size = w.heap.size + 1 + 1 := by simp
        rw [e] at this
        exact this
    have HW : Hid (Below w.heap.size w w2) := by
      refine Below.trans ?_ (hb2.mono (by simp; omega))
      repeat (first | exact Below.refl _ _ | (refine Below.alloc ?_ (by first | exact Nat.le_refl _ | (simp; done) | (simp; omega)) _))
    obtain ⟨hC, hA, hB⟩ := hX; have k3 : w2.cell? ⟨w.heap.size, 3, none⟩ = some (.int .i64 peer) := cell_of_row w2 _ 3 _ _ _ hC
    have fA : ∀ j, w2.frozen? ⟨w.heap.size + 1, j, none⟩ = false := fun j => frozen_of_row w2 _ j _ _ hA
    have fB : ∀ j, w2.frozen? ⟨w.heap.size + 1 + 1, j, none⟩ = false := fun j => frozen_of_row w2 _ j _ _ hB
    obtain ⟨a0, a1, a2, a3, a4, a5, a6, a7, a8, a9, a10, a11, a12⟩ := cells13 hA; obtain ⟨b0, b1, b2, b3, b4, b5, b6, b7, b8, b9, b10, b11, b12⟩ := cells13 hB; clear hC hA hB hb2 c1 c2; go_wp2
    (try simp only [Exit.inBlock, Exit.then])
    refine bodyPost_ret (v := .agg (stCells { role := 0, step := 1, sent := 0, got := 0, prev := 0, skip := skip, cap := cap, root := ro, out := ch, inn := noneL, secret := draw, peer := peer, kept := [] } (.slice none 0 0))) ?_ ?_ ?_
    · simp [results, go_sem, stCells, a0, a1, a2, a3, a4, a5, a6, a7, a8, a9, a10, a11, a12]
    · rfl
    · refine ⟨rfl, ?_⟩
      have hw := HW.out
      repeat (refine Below.setCell ?_ (by first | exact Nat.le_succ _ | exact Nat.le_add_right w.heap.size 2) _)
      exact hw
end Go.Proofs.Ytabpkohcimiceab
namespace Go.Proofs.Ytabpkohcimiceab
set_option maxRecDepth 100000
set_option maxHeartbeats 1000000
open Go.RowKit
set_option linter.unusedVariables false
def CfgOk (role skip cap peer : Int) : Prop := (0 ≤ role ∧ role ≤ 1) ∧ (0 ≤ skip ∧ skip ≤ 12) ∧ (0 ≤ cap ∧ cap ≤ 30) ∧ (role = 1 → peer = 0) ∧ (role ≠ 1 → Pub peer)
instance (role skip cap peer : Int) : Decidable (CfgOk role skip cap peer) := inferInstanceAs (Decidable (_ ∧ _))
theorem cfg_allow (role skip cap peer draw : Int) : (CfgOk role skip cap peer ∧ Sec draw) ↔ Allow role skip cap peer draw := by
  unfold CfgOk Allow
  constructor
  · rintro ⟨⟨⟨a1, a2⟩, ⟨b1, b2⟩, ⟨c1, c2⟩, d1, d2⟩, e⟩
    refine ⟨e, ⟨b1, b2, c1, c2⟩, ?_⟩
    by_cases h : role = 1
    · exact .inr ⟨h, d1 h⟩
    · exact .inl ⟨by omega, d2 h⟩
  · rintro ⟨e, ⟨b1, b2, c1, c2⟩, h⟩
    rcases h with ⟨h, p⟩ | ⟨h, p⟩
    · exact ⟨⟨⟨by omega, by omega⟩, ⟨b1, b2⟩, ⟨c1, c2⟩, fun x => by omega, fun _ => p⟩, e⟩
    · exact ⟨⟨⟨by omega, by omega⟩, ⟨b1, b2⟩, ⟨c1, c2⟩, fun _ => p, fun x => absurd h x⟩, e⟩
theorem isConfig_any (role skip cap peer : Int) (w : World) :
    Calls Try.prog 72 #[.agg (cfgCells role skip cap peer)] w fun e w' => e = .returned (.bool (decide (CfgOk role skip cap peer))) ∧ Below w.heap.size w w' := by
  unfold cfgCells
  have c1 := fun n m w => isWithin_any n m w
  have c2 := fun w => devIsPublic_any peer w
  by_cases h1 : 0 ≤ role ∧ role ≤ 1
  · have d1 := decide_eq_true h1
    by_cases h2 : 0 ≤ skip ∧ skip ≤ 12
    · have d2 := decide_eq_true h2
      by_cases h3 : 0 ≤ cap ∧ cap ≤ 30
      · have d3 := decide_eq_true h3
        by_cases h4 : role = 1
        · have e : decide (CfgOk role skip cap peer) = (peer == 0) := by
            by_cases hp : peer = 0
            · rw [decide_eq_true ⟨h1, h2, h3, fun _ => hp, fun x => absurd h4 x⟩, hp]; rfl
            · rw [decide_eq_false (fun h : CfgOk role skip cap peer => hp (h.2.2.2.1 h4))]; exact (beq_eq_false_iff_ne.2 hp).symm
          rw [e]; subst h4; clear h1 h2 h3 e
          go_enter Try.func72, Try.ntmps72
          go_wp2_with (first | (go_at_call 92; refine (c1 _ _ _).mono ?_; rintro e w' ⟨rfl, hw⟩; rw [hw]; clear hw w'))
          go_ret; exact ⟨rfl, (Below.refl _ _).alloc (Nat.le_refl _) _⟩
        · have e : decide (CfgOk role skip cap peer) = decide (Pub peer) := by
            by_cases hp : Pub peer
            · rw [decide_eq_true hp, decide_eq_true ⟨h1, h2, h3, fun x => absurd x h4, fun _ => hp⟩]
            · rw [decide_eq_false hp, decide_eq_false (fun h : CfgOk role skip cap peer => hp (h.2.2.2.2 h4))]
          rw [e]; clear h1 h2 h3 e
          go_enter Try.func72, Try.ntmps72
          go_wp2_with (first | (go_at_call 92; refine (c1 _ _ _).mono ?_; rintro e w' ⟨rfl, hw⟩; rw [hw]; clear hw w') | (go_at_call 87; refine (c2 _).mono ?_; rintro e w' ⟨rfl, hw⟩; rw [hw]; clear hw w'))
          go_ret; exact ⟨rfl, (Below.refl _ _).alloc (Nat.le_refl _) _⟩
      · have d3 := decide_eq_false h3
        rw [decide_eq_false (fun h : CfgOk role skip cap peer => h3 h.2.2.1)]
        clear h1 h2 h3
        go_enter Try.func72, Try.ntmps72
        go_wp2_with (first | (go_at_call 92; refine (c1 _ _ _).mono ?_; rintro e w' ⟨rfl, hw⟩; rw [hw]; clear hw w'))
        go_ret; exact ⟨rfl, (Below.refl _ _).alloc (Nat.le_refl _) _⟩
    · have d2 := decide_eq_false h2
      rw [decide_eq_false (fun h : CfgOk role skip cap peer => h2 h.2.1)]
      clear h1 h2
      go_enter Try.func72, Try.ntmps72
      go_wp2_with (first | (go_at_call 92; refine (c1 _ _ _).mono ?_; rintro e w' ⟨rfl, hw⟩; rw [hw]; clear hw w'))
      go_ret; exact ⟨rfl, (Below.refl _ _).alloc (Nat.le_refl _) _⟩
  · have d1 := decide_eq_false h1
    rw [decide_eq_false (fun h : CfgOk role skip cap peer => h1 h.1)]
    clear h1
    go_enter Try.func72, Try.ntmps72
    go_wp2_with (first | (go_at_call 92; refine (c1 _ _ _).mono ?_; rintro e w' ⟨rfl, hw⟩; rw [hw]; clear hw w'))
    go_ret; exact ⟨rfl, (Below.refl _ _).alloc (Nat.le_refl _) _⟩
def creErr (d : List UInt8) (role skip cap peer : Int) (sec : List UInt8) (draw : Int) : Int :=
  if isDiskL d = true then
    if Allow role skip cap peer draw then
      if sec.length = 8 then
        if d.length < (1 + 2 * halfN cap.toNat) * 32 then 8
        else if d = List.replicate d.length 0 then 0 else 9
      else 1
    else 3
  else 6
def creTo (d : List UInt8) (role skip cap peer : Int) (sec : List UInt8) (draw : Int) : List UInt8 :=
  if creErr d role skip cap peer sec draw = 0 then packL (newS role.toNat skip.toNat cap.toNat peer.toNat sec draw.toNat) 0 d.length else []
def crePlan (d : List UInt8) (role skip cap peer : Int) (sec : List UInt8) (draw : Int) : List UInt8 :=
  if creErr d role skip cap peer sec draw = 0 then changesL d (creTo d role skip cap peer sec draw) 1 (d.length / 32) ++ changesL d (creTo d role skip cap peer sec draw) 0 1 else []
end Go.Proofs.Ytabpkohcimiceab
