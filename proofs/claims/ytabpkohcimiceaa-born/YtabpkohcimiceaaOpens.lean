import Derived.Test.YtabpkohcimiceaaSeals
import Derived.Test.YtabpkohcimiceaaAgree
import Derived.Test.YtabpkohcimiceaaGrund
import Derived.WalkKit
import Derived.WalkSpells
import Derived.WalkLawsBesides
import Derived.Deep.RegionHeld3
import Derived.Deep.DeepMust
import Derived.Deep.DrawnRows
import Derived.Deep.DeepCutAuto
namespace Go.Proofs.Ytabpkohcimiceaa
open Go.RowKit
set_option linter.unusedVariables false
attribute [local go_sem ↓] Go.wp_at_zero Go.wp_at_succ

theorem rep_size (n : Nat) : (str (List.replicate n 0)).size = n := by rw [str_size, List.length_replicate]

set_option maxRecDepth 100000 in
set_option maxHeartbeats 400000 in
theorem noughts_any (n : Int) (w : World) (h0 : 1 ≤ n) (h1 : n ≤ 1000000) :
    Calls Try.prog 64 #[.int .i64 n] w fun e w' => e = .returned (.string (str (List.replicate n.toNat 0))) ∧ w' = w := by
  obtain ⟨n, rfl⟩ := Int.eq_ofNat_of_zero_le (show 0 ≤ n by omega)
  go_enter Try.func64, Try.ntmps64
  go_wp2
  go_loopg [3] 1000000 (fun g v wr => ∃ k : Nat, ∃ m : ByteArray, v = .string m ∧ 1 ≤ k ∧ k ≤ 2000000 ∧ 1000001 ≤ g + k ∧ m.size = k ∧ m = str (List.replicate k 0) ∧ wr = w)
  case atStart => exact ⟨1, _, rfl, by omega, by omega, by omega, rfl, rfl, rfl⟩
  case round =>
    obtain ⟨k, m, rfl, hk1, hk2, hg, hms, hm, rfl⟩ := hrel
    have HM : Hid (m = str (List.replicate k 0)) := hm
    clear hm
    by_cases hlt : k < n
    · go_wp2
      go_roundg (1000001 - (k + k))
      case measure => omega
      case rel =>
        refine ⟨k + k, _, rfl, by omega, by omega, by omega, ?_, ?_, rfl⟩
        · rw [HM.out, str_append, str_size]; simp
        · rw [HM.out, str_append, List.replicate_append_replicate]
    · go_wp2
      go_ret
      refine ⟨?_, rfl⟩
      show Ending.returned (Value.string (m.extract 0 n)) = _
      rw [← str_of (m.extract 0 n), ext_take, HM.out, str_toList, List.take_replicate, Nat.min_eq_left (by omega)]
      simp

/-- A text of n bytes out of another. -/
def sizedL (l : List UInt8) (n : Nat) : List UInt8 := l.take n ++ List.replicate (n - l.length) 0
theorem sizedL_length (l : List UInt8) (n : Nat) : (sizedL l n).length = n := by simp [sizedL]; omega

set_option maxRecDepth 100000 in
set_option maxHeartbeats 400000 in
theorem sized_any (s : ByteArray) (n : Int) (w : World) (h0 : 0 ≤ n) (h1 : n ≤ 1000000) (hs : s.size ≤ maxLen) :
    Calls Try.prog 26 #[.string s, .int .i64 n] w fun e w' => e = .returned (.string (str (sizedL s.data.toList n.toNat))) ∧ w' = w := by
  obtain ⟨n, rfl⟩ := Int.eq_ofNat_of_zero_le h0
  unfold maxLen at hs
  by_cases h : n ≤ s.size
  · go_enter Try.func26, Try.ntmps26
    go_wp2
    go_ret
    refine ⟨?_, rfl⟩
    show Ending.returned (Value.string (s.extract 0 n)) = _
    rw [← str_of (s.extract 0 n), ext_take, sizedL, len_list, Int.toNat_natCast, show n - s.size = 0 by omega]
    simp
  · obtain ⟨m, hm⟩ : ∃ m : Nat, (n : Int) - s.size = (m : Int) := ⟨n - s.size, by omega⟩
    have hrs := rep_size m
    have hno := fun w => noughts_any (m : Int) w (by omega) (by omega)
    rw [Int.toNat_natCast] at hno
    go_enter Try.func26, Try.ntmps26
    go_wp2_with (go_at_call 64; refine (hno _).mono ?_; rintro e w' ⟨rfl, rfl⟩)
    go_ret
    refine ⟨?_, rfl⟩
    show Ending.returned (Value.string (s ++ str (List.replicate m 0))) = _
    have e : s ++ str (List.replicate m 0) = str (sizedL s.data.toList n) := by
      conv => lhs; rw [← str_of s]
      rw [str_append, sizedL, len_list, List.take_of_length_le (by rw [len_list]; omega), show n - s.size = m by omega]
    rw [e, Int.toNat_natCast]

set_option maxRecDepth 100000 in
set_option maxHeartbeats 400000 in
theorem cutTo_any (s : ByteArray) (n : Int) (w : World) (h0 : 0 ≤ n) (h1 : n ≤ 1000000) (hs : s.size ≤ maxLen) :
    Calls Try.prog 27 #[.string s, .int .i64 n] w fun e w' => e = .returned (.string (str (s.data.toList.take n.toNat))) ∧ w' = w := by
  obtain ⟨n, rfl⟩ := Int.eq_ofNat_of_zero_le h0
  unfold maxLen at hs
  by_cases h : n < s.size
  · go_enter Try.func27, Try.ntmps27
    go_wp2
    go_ret
    refine ⟨?_, rfl⟩
    show Ending.returned (Value.string (s.extract 0 n)) = _
    rw [← str_of (s.extract 0 n), ext_take, Int.toNat_natCast]
  · go_enter Try.func27, Try.ntmps27
    go_wp2
    go_ret
    refine ⟨?_, rfl⟩
    show Ending.returned (Value.string s) = _
    rw [Int.toNat_natCast, List.take_of_length_le (by rw [len_list]; omega), str_of]

attribute [local go_sem] wrap_ub ofNat_ub str_one_size
theorem conv1d (w : World) (a : Int) :
    (convert 42 9 (.slice (some ⟨w.heap.size, 0, none⟩) 1 1)).run Try.prog (w.alloc (.cells #[.int .u8 a] 5)).drew =
      .ok (.string (str [UInt8.ofNat a.toNat])) (w.alloc (.cells #[.int .u8 a] 5)).drew := conv1 w.drew a
theorem turn_byte (a : UInt8) (p : Int) (h0 : 0 ≤ p) (h1 : p < 255) : bits .xor .u8 (a.toNat : Int) (1 + p) = ub (a ^^^ UInt8.ofNat (1 + p).toNat) := by
  obtain ⟨n, hn⟩ := Int.eq_ofNat_of_zero_le (show 0 ≤ 1 + p by omega)
  have e : (1 + p) = ((UInt8.ofNat n).toNat : Int) := by simp; omega
  rw [← ub_xor]
  congr 1
  rw [hn, Int.toNat_natCast]; simp; omega
theorem wrap_u8i (v : Int) (h0 : 0 ≤ v) (h1 : v < 256) : IntKind.u8.wrap v = v := by
  show v % 2 ^ 8 = v
  omega
theorem turned (all : ByteArray) (i : Nat) (d : UInt8) (h : i < all.size) : all.extract 0 i ++ str [d] ++ all.extract (i + 1) all.size = str (all.data.toList.set i d) := by
  rw [← str_of (all.extract 0 i), ← str_of (all.extract (i + 1) all.size), ext_take, ext_drop, str_append, str_append, flip_at _ _ _ (by rw [len_list]; exact h)]
  simp
theorem flip_ne (a : UInt8) (p : Int) (h0 : 0 ≤ p) (h1 : p < 255) : a ^^^ UInt8.ofNat (1 + p).toNat ≠ a := by
  intro h
  have h2 : UInt8.ofNat (1 + p).toNat = 0 := by
    have := congrArg (fun z => a ^^^ z) h
    simp only [← UInt8.xor_assoc, UInt8.xor_self, UInt8.zero_xor] at this
    exact this
  have h3 := congrArg UInt8.toNat h2
  simp at h3
  omega

set_option maxRecDepth 100000 in
set_option maxHeartbeats 1000000 in
theorem opens_walk (a0 a1 a2 : ByteArray) (a3 a4 : Int) (w0 : a0.size ≤ maxLen) (w1 : a1.size ≤ maxLen) (w2 : a2.size ≤ maxLen) (w3 : (Lit.int .i64 a3).wf = true) (w4 : (Lit.int .i64 a4).wf = true) (w : World) :
    Calls Try.prog 7 #[.string a0, .string a1, .string a2, .int .i64 a3, .int .i64 a4] w fun e w' => e = .returned (.bool true) ∧ Below w.heap.size w w' := by
  obtain ⟨l3, u3⟩ := wf_i64 w3
  obtain ⟨l4, u4⟩ := wf_i64 w4
  clear w3 w4
  -- the three texts
  have c1 := fun w => sized_any a0 8 w (by omega) (by omega) w0
  have c2 := fun w => sized_any a1 7 w (by omega) (by omega) w1
  have c3 := fun w => cutTo_any a2 40 w (by omega) (by omega) w2
  obtain ⟨k, hk⟩ : ∃ k, k = str (sizedL a0.data.toList (8 : Int).toNat) := ⟨_, rfl⟩
  obtain ⟨h, hh⟩ : ∃ h, h = str (sizedL a1.data.toList (7 : Int).toNat) := ⟨_, rfl⟩
  obtain ⟨t, ht⟩ : ∃ t, t = str (a2.data.toList.take (40 : Int).toNat) := ⟨_, rfl⟩
  have hk8 : k.size = 8 := by rw [hk, str_size, sizedL_length]; rfl
  have hh7 : h.size = 7 := by rw [hh, str_size, sizedL_length]; rfl
  have ht40 : t.size ≤ 40 := by rw [ht, str_size, List.length_take]; exact Nat.min_le_left _ _
  rw [← hk] at c1
  rw [← hh] at c2
  rw [← ht] at c3
  clear hk hh ht w0 w1 w2
  -- sealed
  have c4 := fun w => pawlSeal_any k h t w (by unfold maxLen; omega) (by unfold maxLen; omega) (by unfold maxLen; omega)
  have e1 : sealErr k h t = 0 := by rw [sealErr, if_pos hk8, if_pos hh7, if_pos ht40]
  obtain ⟨s, hs⟩ : ∃ s, s = str (sealL k.data.toList h.data.toList t.data.toList) := ⟨_, rfl⟩
  have e2 : sealOut k h t = s := by rw [sealOut, if_pos ⟨hk8, hh7, ht40⟩, hs]
  rw [e1, e2] at c4
  have hss : s.size = t.size + 8 := by rw [hs, str_size, sealL_length, len_list]
  have hsl : s.data.toList = sealL k.data.toList h.data.toList t.data.toList := by rw [hs, str_toList]
  have c5 := fun w => pawlUnseal_any k h s w (by unfold maxLen; omega) (by unfold maxLen; omega) (by unfold maxLen; omega)
  have ho : opensL k.data.toList h.data.toList s.data.toList := by rw [hsl]; exact seal_opens _ _ _
  have e3 : unErr k h s = 0 := by rw [unErr, if_pos hk8, if_pos ⟨hh7, by omega⟩, if_pos (by omega), if_pos ho]
  have e4 : unOut k h s = t := by
    rw [unOut, if_pos ⟨hk8, ⟨hh7, by omega⟩, by omega, ho⟩, hsl, ← len_list s, hsl, seal_take, veil_veil, str_of]
  rw [e3, e4] at c5
  clear e1 e2 e3 e4 ho hs
  -- a byte turned
  obtain ⟨p0, p1⟩ := pickN_bd a4 255 (by omega)
  obtain ⟨i, hi⟩ : ∃ i : Nat, pickN a3 (7 + ((t.size : Int) + 8)) = (i : Int) := ⟨(pickN a3 (7 + ((t.size : Int) + 8))).toNat, by have := (pickN_bd a3 (7 + ((t.size : Int) + 8)) (by omega)).1; omega⟩
  have hi2 := (pickN_bd a3 (7 + ((t.size : Int) + 8)) (by omega)).2
  rw [hi] at hi2
  have c6 := fun w => pick_any a3 (7 + ((t.size : Int) + 8)) w l3 u3 (by omega) (by omega)
  rw [hi] at c6
  have c7 := fun w => pick_any a4 255 w l4 u4 (by omega) (by omega)
  obtain ⟨all, hall⟩ : ∃ all, all = h ++ s := ⟨_, rfl⟩
  have hal : all.data.toList = h.data.toList ++ s.data.toList := by rw [hall, ByteArray.data_append]; simp
  have has : all.size = t.size + 15 := by rw [← len_list, hal, List.length_append, len_list, len_list]; omega
  have hia : i < all.size := by omega
  clear hi
  have hssI : (s.size : Int) = (t.size : Int) + 8 := by omega
  have hh7I : (h.size : Int) = 7 := by omega
  have HALL : Hid (all = h ++ s) := hall
  have hroom : ¬ 9223372036854775807 < h.size + s.size := by omega
  have HN : Hid (k.size = 8 ∧ h.size = 7 ∧ t.size ≤ 40 ∧ s.size = t.size + 8 ∧ all.size = t.size + 15 ∧ i < all.size ∧ all.data.toList = h.data.toList ++ s.data.toList ∧ s.data.toList = sealL k.data.toList h.data.toList t.data.toList) := ⟨hk8, hh7, ht40, hss, has, hia, hal, hsl⟩
  have ht40I : (t.size : Int) ≤ 40 := by omega
  clear hall hk8 hh7 ht40 hss has hal hsl hia
  have tok1 : True := trivial
  go_enter Try.func7, Try.ntmps7
  go_upto_region 11 with (first | (go_at_call 26; have _t := tok1; refine (c1 _).mono ?_; rintro e w' ⟨rfl, hw⟩; rw [hw]; clear hw w' tok1) | (go_at_call 26; refine (c2 _).mono ?_; rintro e w' ⟨rfl, hw⟩; rw [hw]; clear hw w') | (go_at_call 27; refine (c3 _).mono ?_; rintro e w' ⟨rfl, hw⟩; rw [hw]; clear hw w') | (go_at_call 21; refine (c4 _).mono ?_; rintro e x1 ⟨rfl, hb1⟩) | (go_at_call 23; refine (c5 _).mono ?_; rintro e x2 ⟨rfl, hb2⟩) | (go_at_call 28; refine (c6 _).mono ?_; rintro e w' ⟨rfl, hw⟩; rw [hw]; clear hw w'))
  go_cut [19] (fun v wx => v = .string all ∧ wx = x2)
  case first =>
    go_wp2
    go_meet
    case rel => exact ⟨by rw [HALL.out], rfl⟩
  case rest =>
    obtain ⟨rfl, rfl⟩ := hcut
    clear c1 c2 c3 c4 c5 c6 hroom
    have hia := HN.out.2.2.2.2.2.1
    obtain ⟨d, hd⟩ : ∃ d, d = all[i] ^^^ UInt8.ofNat (1 + pickN a4 255).toNat := ⟨_, rfl⟩
    have hdx := turn_byte all[i] (pickN a4 255) p0 p1
    have hw1 : IntKind.i64.wrap (1 + pickN a4 255) = 1 + pickN a4 255 := by rw [IntKind.wrap_i64]; omega
    have hw2 : IntKind.u8.wrap (1 + pickN a4 255) = 1 + pickN a4 255 := wrap_u8i _ (by omega) (by omega)
    rw [← hd] at hdx
    have HD : Hid (d ≠ all.data.toList.getD i 0) := by rw [getD_at all i hia, hd]; exact flip_ne _ _ p0 p1
    clear hd
    have i0 : (0 : Int) ≤ (i : Int) := by omega
    have i1 : (i : Int) < (all.size : Int) := by omega
    go_upto_region 12 with fail
    go_cut [20] (fun v wx => v = .int .u8 (ub d) ∧ Below wc.heap.size wc wx)
    case first =>
      go_region_held3 (fun w' => True) (trivial) (first | (go_at_call 28; go_must (refine (c7 _).mono ?_); rintro e w' ⟨rfl, rfl⟩))
      all_goals go_wp2
      all_goals go_meet
      all_goals
        refine ⟨by first | rfl | rw [hw1, hw2, hdx] | rw [hdx], ?_⟩
        repeat (first | exact Below.refl _ _ | apply Below.drew)
    case rest =>
      obtain ⟨rfl, hbc⟩ := hcut
      obtain ⟨wc2, hwc2⟩ : ∃ wc2 : World, wc2 = wc := ⟨_, rfl⟩
      rw [← hwc2]
      rw [← hwc2] at hbc
      clear hwc2
      clear hdx c7
      have kc := conv1
      have kd := conv1d
      have i2 : (i : Int) + 1 ≤ (all.size : Int) := by omega
      have i3 : IntKind.i64.wrap ((i : Int) + 1) = (i : Int) + 1 := by rw [IntKind.wrap_i64]; omega
      have i4 : (0 : Int) ≤ (i : Int) + 1 := by omega
      have i5 : (i : Int) ≤ (all.size : Int) := by omega
      have hmin : min i all.size = i := by omega
      have r1 : ¬ 9223372036854775807 < i + 1 := by omega
      have r2 : ¬ 9223372036854775807 < i + 1 + (all.size - (i + 1)) := by have h1 := HN.out.2.2.1; have h2 := HN.out.2.2.2.2.1; omega
      have tn : ((i : Int) + 1).toNat = i + 1 := by omega
      clear hw1 hw2 p0 p1
      go_upto_region 13 with fail
      go_cut [19] (fun v wx => v = .string (str (all.data.toList.set i d)) ∧ Below wc2.heap.size wc2 wx)
      case first =>
        go_region
        go_wp2
        go_meet
        case rel =>
          refine ⟨?_, ?_⟩
          · rw [turned all i d hia]
          · repeat (first | exact Below.refl _ _ | apply Below.drew | (refine Below.alloc ?_ (by first | exact Nat.le_refl _ | simp) _))
      case rest =>
        obtain ⟨rfl, hbd⟩ := hcut
        obtain ⟨hk8, hh7, ht40, hss, has, _, hal, hsl⟩ := HN.out
        obtain ⟨b, hb⟩ : ∃ b, b = str (all.data.toList.set i d) := ⟨_, rfl⟩
        have hbl : b.data.toList = all.data.toList.set i d := by rw [hb, str_toList]
        have hbs : b.size = all.size := by rw [← len_list, hbl, List.length_set, len_list]
        have c8 := fun w => pawlUnseal_any k (b.extract 0 7) (b.extract 7 b.size) w (by unfold maxLen; omega) (by unfold maxLen; simp; omega) (by unfold maxLen; simp; omega)
        have q1 : (b.extract 0 7).size = 7 := by rw [← len_list, ext_take, List.length_take, len_list]; omega
        have q2 : (b.extract 7 b.size).size = t.size + 8 := by rw [← len_list, ext_drop, List.length_drop, len_list]; omega
        have hno : ¬ opensL k.data.toList (b.extract 0 7).data.toList (b.extract 7 b.size).data.toList := by
          rw [ext_take, ext_drop, hbl, hal, hsl]
          exact flip_shut _ _ _ (by rw [len_list]; exact hh7) i d (by rw [← hsl, ← hal, len_list]; exact hia) (by rw [← hsl, ← hal]; exact HD.out)
        have q3 : unErr k (b.extract 0 7) (b.extract 7 b.size) = 5 := by rw [unErr, if_pos hk8, if_pos ⟨q1, by omega⟩, if_pos (by omega), if_neg hno]
        have q4 : unOut k (b.extract 0 7) (b.extract 7 b.size) = ⟨#[]⟩ := by rw [unOut, if_neg (fun g => hno g.2.2.2)]
        rw [q3, q4] at c8
        rw [← hb]
        have b7 : (7 : Int) ≤ (b.size : Int) := by omega
        clear q1 q2 q3 q4 hno hbl hbs hb hk8 hh7 ht40 hss has hal hsl HN HD HALL r1 r2 hmin tn kc kd i2 i3 i4 i5 i0 i1 hia hssI hh7I ht40I hi2 l3 u3 l4 u4
        go_upto_region 14 with fail
        go_region_held3 (fun w' => True) (trivial) (first | (go_at_call 23; go_must (refine (c8 _).mono ?_); rintro e y1 ⟨rfl, hb3⟩))
        go_wp2
        go_ret
        refine ⟨rfl, ?_⟩
        repeat (first | assumption | apply Below.drew | (apply below_tr; rotate_left; assumption))
end Go.Proofs.Ytabpkohcimiceaa
