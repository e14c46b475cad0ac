import Derived.Test.YtabpkohcimiceaaBoxM
import Derived.Test.YtabpkohcimiceaaDiskR
import Derived.Test.YtabpkohcimiceaaSealR
import Derived.WalkKit
import Derived.WalkSpells
import Derived.WalkLawsBesides
import Derived.Deep.RegionHeld3
import Derived.Deep.DeepMust
import Derived.Deep.DrawnRows
import Derived.Deep.DeepCutAuto
namespace Go.Proofs.Ytabpkohcimiceaa
open Go.RowKit
set_option linter.unusedVariables false

set_option maxRecDepth 100000 in
set_option maxHeartbeats 400000 in
theorem half_any (n : Nat) (w : World) (h : n ≤ 1000) : Calls Try.prog 73 #[.int .i64 n] w fun e w' => e = .returned (.int .i64 (halfN n)) ∧ w' = w := by
  go_enter Try.func73, Try.ntmps73
  go_wp2
  go_ret
  exact ⟨rfl, rfl⟩

/-- What Need answers. -/
def needR (n : Int) : Int × Int := if 0 ≤ n ∧ n ≤ 30 then (1 + 2 * (halfN n.toNat : Int), 0) else (0, 3)
set_option maxRecDepth 100000 in
set_option maxHeartbeats 400000 in
theorem refNeed_any (n : Int) (w : World) : Calls Try.prog 34 #[.int .i64 n] w fun e w' => e = .returned (.tuple #[.int .i64 (needR n).1, .int .i64 (needR n).2]) ∧ w' = w := by
  by_cases h0 : n < 0
  · rw [needR, if_neg (by omega)]
    go_enter Try.func34, Try.ntmps34
    go_wp2
    go_ret2
    exact ⟨rfl, rfl⟩
  by_cases h1 : 30 < n
  · rw [needR, if_neg (by omega)]
    go_enter Try.func34, Try.ntmps34
    go_wp2
    go_ret2
    exact ⟨rfl, rfl⟩
  obtain ⟨m, rfl⟩ := Int.eq_ofNat_of_zero_le (show 0 ≤ n by omega)
  rw [needR, if_pos (by omega), Int.toNat_natCast]
  have hh : halfN m ≤ 11 := by unfold halfN; omega
  have c1 := fun w => half_any m w (by omega)
  obtain ⟨q, hq⟩ : ∃ q, q = halfN m := ⟨_, rfl⟩
  rw [← hq] at hh c1 ⊢
  clear hq
  go_enter Try.func34, Try.ntmps34
  go_wp2_with (go_at_call 73; refine (c1 _).mono ?_; rintro e w' ⟨rfl, hw⟩; rw [hw]; clear hw w')
  go_ret2
  refine ⟨?_, rfl⟩
  show Ending.returned (Value.tuple #[Value.int .i64 (1 + (q : Int) + (q : Int)), _]) = _
  rw [show (1 + (q : Int) + (q : Int)) = 1 + 2 * (q : Int) by omega]
  rfl

set_option maxRecDepth 100000 in
set_option maxHeartbeats 400000 in
theorem filled_any (s : ByteArray) (n : Int) (w : World) (h0 : 0 ≤ n) (h1 : n ≤ 100000) (hs : s.size ≤ 100000) :
    Calls Try.prog 126 #[.string s, .int .i64 n] w fun e w' => e = .returned (.string (str (fillL s.data.toList n.toNat))) ∧ w' = w := by
  obtain ⟨m, rfl⟩ := Int.eq_ofNat_of_zero_le h0
  have c1 := fun w => zeros_any ((m : Int) - (s.size : Int)) w (by omega) (by omega)
  obtain ⟨z, hz⟩ : ∃ z, z = str (List.replicate ((m : Int) - (s.size : Int)).toNat 0) := ⟨_, rfl⟩
  have hzs : z.size ≤ 100000 := by rw [hz, str_size, List.length_replicate]; omega
  rw [← hz] at c1
  have HZ : Hid (z = str (List.replicate ((m : Int) - (s.size : Int)).toNat 0)) := hz
  clear hz
  go_enter Try.func126, Try.ntmps126
  go_wp2_with (go_at_call 81; refine (c1 _).mono ?_; rintro e w' ⟨rfl, hw⟩; rw [hw]; clear hw w')
  go_ret
  refine ⟨?_, rfl⟩
  show Ending.returned (Value.string (s ++ z)) = _
  have e : s ++ z = str (fillL s.data.toList m) := by
    conv => lhs; rw [← str_of s]
    rw [HZ.out, str_append, fillL, len_list, show ((m : Int) - (s.size : Int)).toNat = m - s.size by omega]
  rw [e, Int.toNat_natCast]

theorem pawl_size (b : UInt8) : ((⟨#[80, 65, 87, 76]⟩ : ByteArray) ++ str [b]).size = 5 := by
  rw [← len_list, ByteArray.data_append]; simp [str]
theorem pawl_size2 (b c : UInt8) : ((⟨#[80, 65, 87, 76]⟩ : ByteArray) ++ str [b] ++ str [c]).size = 6 := by
  rw [← len_list, ByteArray.data_append, ByteArray.data_append]; simp [str]
theorem pawl_list (b c : UInt8) : ((⟨#[80, 65, 87, 76]⟩ : ByteArray) ++ str [b] ++ str [c]).data.toList = [80, 65, 87, 76, b, c] := by
  rw [ByteArray.data_append, ByteArray.data_append]; simp [str]

set_option maxRecDepth 100000 in
set_option maxHeartbeats 400000 in
theorem top_any (c l : Nat) (w : World) (h0 : c ≤ 1000) (h1 : l ≤ 1000) :
    Calls Try.prog 125 #[.int .i64 c, .int .i64 l] w fun e w' => e = .returned (.string (str (topL c l))) ∧ Below w.heap.size w w' := by
  have z1 := pawl_size (UInt8.ofNat c)
  have z2 := pawl_size2 (UInt8.ofNat c) (UInt8.ofNat l)
  have c2 := fun w => filled_any ((⟨#[80, 65, 87, 76]⟩ : ByteArray) ++ str [UInt8.ofNat c] ++ str [UInt8.ofNat l]) 32 w (by omega) (by omega) (by rw [z2]; omega)
  rw [pawl_list] at c2
  go_enter Try.func125, Try.ntmps125
  go_wp2_with (first | (go_at_call 100; refine (byteOf_any _ _ (by omega) (by omega)).mono ?_; rintro e w1 ⟨rfl, cc, rfl⟩) | (go_at_call 126; refine (c2 _).mono ?_; rintro e w' ⟨rfl, hw⟩; rw [hw]; clear hw w'))
  go_ret
  refine ⟨rfl, ?_⟩
  repeat (first | exact Below.refl _ _ | (refine Below.alloc ?_ (by first | exact Nat.le_refl _ | simp) _))

set_option maxRecDepth 100000 in
set_option maxHeartbeats 400000 in
theorem value_any (s : ByteArray) (w : World) (hs : s.size ≤ maxLen) :
    Calls Try.prog 154 #[.string s] w fun e w' => e = .returned (.int .i64 (wn 4 s.data.toList)) ∧ w' = w := by
  have hb := u_bd (wd s.data.toList)
  have hu : u (wd s.data.toList) = ((wn 4 s.data.toList : Nat) : Int) := by unfold u; rw [wd_toNat]
  have c1 := fun w => word_any s w hs
  rw [hu] at c1 hb
  obtain ⟨b0, b1⟩ := hb
  clear hu
  obtain ⟨q, hq⟩ : ∃ q, q = wn 4 s.data.toList := ⟨_, rfl⟩
  rw [← hq] at c1 b0 b1 ⊢
  clear hq
  go_enter Try.func154, Try.ntmps154
  go_wp2_with (go_at_call 111; refine (c1 _).mono ?_; rintro e w' ⟨rfl, hw⟩; rw [hw]; clear hw w')
  go_ret
  exact ⟨rfl, rfl⟩

set_option maxRecDepth 100000 in
set_option maxHeartbeats 400000 in
theorem of_any (l : List EntM) (v : Value) (t : Nat) (w : World) (hl : EntsAt w v l) (hl2 : l.length ≤ 1000) :
    Calls Try.prog 163 #[v, .int .i64 t] w fun e w' => e = .returned (.int .i64 (ofL l t)) ∧ w' = w := by
  obtain ⟨a, cap, hva⟩ := hl.form
  subst hva
  go_enter Try.func163, Try.ntmps163
  go_wp2
  go_loopg [5, 6] 2000 (fun g n c wr => ∃ j : Nat, c = .int .i64 j ∧ j ≤ l.length ∧ g + j = 2000 ∧ n = .int .i64 (ofL (l.take j) t) ∧ wr = w)
  case atStart => exact ⟨0, rfl, by omega, by omega, rfl, rfl⟩
  case round =>
    obtain ⟨j, rfl, hj, hg, rfl, rfl⟩ := hrel
    have hle := ofL_le (l.take j) t
    have hlt2 : (l.take j).length ≤ 1000 := by rw [List.length_take]; omega
    by_cases hlt : j < l.length
    · obtain ⟨g, cap', hv', hc, hgs, c0, c1, c2⟩ := hl.cells hlt
      injection hv' with h1 h2 h3
      subst h1 h3
      have hjl : (j : Int) < (l.length : Int) := by omega
      have hof := ofL_take l t j hlt
      obtain ⟨q, hq⟩ : ∃ q, q = ofL (l.take j) t := ⟨_, rfl⟩
      rw [← hq] at hle hof ⊢
      by_cases he : (l.getD j default).step = t
      · rw [if_pos he] at hof
        rw [he] at c0
        have HO : Hid (ofL (l.take (j + 1)) t = q + 1) := hof
        clear hof hq he
        go_wp2
        go_roundg (gk - 1)
        case measure => omega
        case rel => exact ⟨j + 1, by simp, by omega, by omega, by rw [HO.out]; simp, rfl⟩
      · rw [if_neg he] at hof
        have HO : Hid (ofL (l.take (j + 1)) t = q) := hof
        have he' : ¬ ((l.getD j default).step : Int) = (t : Int) := by omega
        obtain ⟨z, hz⟩ : ∃ z, z = (l.getD j default).step := ⟨_, rfl⟩
        rw [← hz] at c0 he'
        clear hof hq he hz
        go_wp2
        go_roundg (gk - 1)
        case measure => omega
        case rel => exact ⟨j + 1, by simp, by omega, by omega, by rw [HO.out], rfl⟩
    · obtain rfl : j = l.length := by omega
      rw [List.take_length]
      go_wp2
      go_ret
      exact ⟨rfl, rfl⟩

set_option maxRecDepth 100000 in
set_option maxHeartbeats 400000 in
theorem before_any (a b : EntM) (w : World) :
    Calls Try.prog 164 #[.agg #[.int .i64 a.step, .int .i64 a.count, .string (str a.key)], .agg #[.int .i64 b.step, .int .i64 b.count, .string (str b.key)]] w fun e w' => e = .returned (.bool (beforeL a b)) ∧ ∃ x y, w' = (w.alloc (.cells x 168)).alloc (.cells y 168) := by
  by_cases h1 : a.step < b.step
  · have e1 : beforeL a b = true := by simp [beforeL, h1]
    rw [e1]
    have h1' : (a.step : Int) < (b.step : Int) := by omega
    go_enter Try.func164, Try.ntmps164
    go_wp2
    go_ret
    exact ⟨rfl, _, _, rfl⟩
  · have h1' : ¬ (a.step : Int) < (b.step : Int) := by omega
    by_cases h2 : a.step = b.step
    · have h2' : (a.step : Int) = (b.step : Int) := by omega
      by_cases h3 : a.count < b.count
      · have e1 : beforeL a b = true := by simp [beforeL, h2, h3]
        rw [e1]
        have h3' : (a.count : Int) < (b.count : Int) := by omega
        go_enter Try.func164, Try.ntmps164
        go_wp2
        go_ret
        exact ⟨rfl, _, _, rfl⟩
      · have e1 : beforeL a b = false := by simp [beforeL, h2, h3]
        rw [e1]
        have h3' : ¬ (a.count : Int) < (b.count : Int) := by omega
        go_enter Try.func164, Try.ntmps164
        go_wp2
        go_ret
        exact ⟨rfl, _, _, rfl⟩
    · have e1 : beforeL a b = false := by simp [beforeL, h1, h2]
      rw [e1]
      have h2' : ¬ (a.step : Int) = (b.step : Int) := by omega
      go_enter Try.func164, Try.ntmps164
      go_wp2
      go_ret
      exact ⟨rfl, _, _, rfl⟩
end Go.Proofs.Ytabpkohcimiceaa
