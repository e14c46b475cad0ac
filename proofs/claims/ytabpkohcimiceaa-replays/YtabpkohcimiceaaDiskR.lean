import Derived.Test.YtabpkohcimiceaaDiskM
import Derived.Test.YtabpkohcimiceaaSealC
import Derived.WalkKit
import Derived.WalkSpells
import Derived.WalkLawsBesides
import Derived.OwnWalk
import Derived.Deep.RegionHeld3
import Derived.Deep.AppendLies
import Derived.Deep.DrawnRows
import Derived.Deep.DeepCutAuto
namespace Go.Proofs.Ytabpkohcimiceaa
open Go.RowKit
set_option linter.unusedVariables false

set_option maxRecDepth 100000 in
set_option maxHeartbeats 400000 in
theorem zeros_any (n : Int) (w : World) (h0 : -1000000 ≤ n) (h1 : n ≤ 1000000) :
    Calls Try.prog 81 #[.int .i64 n] w fun e w' => e = .returned (.string (str (List.replicate n.toNat 0))) ∧ w' = w := by
  by_cases hn : n < 1
  · have e : n.toNat = 0 := by omega
    rw [e]
    go_enter Try.func81, Try.ntmps81
    go_wp2
    go_ret
    exact ⟨rfl, rfl⟩
  obtain ⟨n, rfl⟩ := Int.eq_ofNat_of_zero_le (show 0 ≤ n by omega)
  go_enter Try.func81, Try.ntmps81
  go_wp2
  go_loopg [3] 1000000 (fun g v wr => ∃ k : Nat, ∃ m : ByteArray, v = .string m ∧ 1 ≤ k ∧ k ≤ 2000000 ∧ 1000001 ≤ g + k ∧ m.size = k ∧ m = str (List.replicate k 0) ∧ wr = w)
  case atStart => exact ⟨1, _, rfl, by omega, by omega, by omega, rfl, rfl, rfl⟩
  case round =>
    obtain ⟨k, m, rfl, hk1, hk2, hg, hms, hm, rfl⟩ := hrel
    have HM : Hid (m = str (List.replicate k 0)) := hm
    clear hm
    by_cases hlt : k < n
    · go_wp2
      go_roundg (1000001 - (k + k))
      case measure => omega
      case rel =>
        refine ⟨k + k, _, rfl, by omega, by omega, by omega, ?_, ?_, rfl⟩
        · rw [HM.out, str_append, str_size]; simp
        · rw [HM.out, str_append, List.replicate_append_replicate]
    · go_wp2
      go_ret
      refine ⟨?_, rfl⟩
      show Ending.returned (Value.string (m.extract 0 n)) = _
      rw [← str_of (m.extract 0 n), ext_take, HM.out, str_toList, List.take_replicate, Nat.min_eq_left (by omega)]
      simp

set_option maxRecDepth 100000 in
set_option maxHeartbeats 400000 in
theorem isDisk_any (s : ByteArray) (w : World) (hs : s.size ≤ maxLen) :
    Calls Try.prog 67 #[.string s] w fun e w' => e = .returned (.bool (isDiskL s.data.toList)) ∧ w' = w := by
  unfold maxLen at hs
  go_enter Try.func67, Try.ntmps67
  go_wp2
  go_loopg [3] 40 (fun g v wr => ∃ k : Nat, v = .int .i64 k ∧ 1 ≤ k ∧ k ≤ 41 ∧ g + k = 41 ∧ (∀ m, 1 ≤ m → m < k → s.size ≠ m * 32) ∧ wr = w)
  case atStart => exact ⟨1, rfl, by omega, by omega, by omega, by omega, rfl⟩
  case round =>
    obtain ⟨k, rfl, hk1, hk2, hg, hm, rfl⟩ := hrel
    have HM : Hid (∀ m, 1 ≤ m → m < k → s.size ≠ m * 32) := hm
    clear hm
    by_cases hk : k ≤ 40
    · by_cases he : s.size = k * 32
      · have he' : (s.size : Int) = (k : Int) * 32 := by omega
        go_wp2
        go_ret
        refine ⟨?_, rfl⟩
        show Ending.returned (Value.bool true) = _
        rw [isDiskL, decide_eq_true (by rw [len_list]; omega)]
      · have he' : ¬ (s.size : Int) = (k : Int) * 32 := by omega
        go_wp2
        go_roundg (gk - 1)
        case measure => omega
        case rel =>
          refine ⟨k + 1, by simp, by omega, by omega, by omega, ?_, rfl⟩
          intro m h1 h2
          rcases Nat.lt_or_ge m k with h | h
          · exact HM.out m h1 h
          · obtain rfl : m = k := by omega
            exact he
    · go_wp2
      go_ret
      refine ⟨?_, rfl⟩
      show Ending.returned (Value.bool false) = _
      rw [isDiskL, decide_eq_false]
      rw [len_list]
      intro h
      exact HM.out (s.size / 32) (by omega) (by omega) (by omega)

/-- A cell of record j, as the walk reckons it. -/
theorem RecsAt.cells {w : World} {v : Value} {l : List RecM} (h : RecsAt w v l) {j : Nat} (hj : j < l.length) : ∃ g cap, v = .slice (some ⟨g, 0, none⟩) l.length cap ∧ l.length ≤ cap ∧ w.cell? ⟨g, j * 3, none⟩ = some (.bool (l.getD j default).stop) ∧ w.cell? ⟨g, j * 3 + 1, none⟩ = some (.int .i64 ((l.getD j default).to : Int)) ∧ w.cell? ⟨g, j * 3 + 2, none⟩ = some (.string (str (l.getD j default).data)) := by
  have e : l.getD j default = l[j] := by rw [List.getD_eq_getElem?_getD, List.getElem?_eq_getElem hj]; rfl
  rcases h with ⟨_, rfl⟩ | ⟨g, cap, h1, h2, _, h4⟩
  · simp at hj
  · rw [e]; exact ⟨g, cap, h1, h2, h4 j hj⟩

set_option maxRecDepth 100000 in
set_option maxHeartbeats 400000 in
theorem stopped_any (l : List RecM) (v : Value) (i n : Nat) (w : World) (hl : RecsAt w v l) (hn : n ≤ l.length) (hl2 : l.length ≤ 1000) (hi : i ≤ 1000) :
    Calls Try.prog 148 #[v, .int .i64 i, .int .i64 n] w fun e w' => e = .returned (.bool (stoppedL l i n)) ∧ w' = w := by
  go_enter Try.func148, Try.ntmps148
  go_wp2
  go_loopg [7] 2000 (fun g c wr => ∃ j : Nat, c = .int .i64 j ∧ i < j ∧ g + j ≤ 2000 + i + 1 ∧ 2000 + i + 1 ≤ g + j ∧ stoppedL l i j = false ∧ wr = w)
  case atStart => exact ⟨i + 1, by simp, by omega, by omega, by omega, stoppedL_le _ _ _ (Nat.le_refl _), rfl⟩
  case round =>
    obtain ⟨j, rfl, hij, hg1, hg2, hf, rfl⟩ := hrel
    have HF : Hid (stoppedL l i j = false) := hf
    clear hf
    by_cases hj : j < n
    · obtain ⟨g, cap, rfl, hc, c0, c1, c2⟩ := hl.cells (show j < l.length by omega)
      have hjl : (j : Int) < (l.length : Int) := by omega
      cases hst : (l.getD j default).stop with
      | true =>
        rw [hst] at c0
        go_wp2
        go_ret
        refine ⟨?_, rfl⟩
        show Ending.returned (Value.bool true) = _
        rw [stoppedL_hit l i j n hij hj hst]
      | false =>
        rw [hst] at c0
        go_wp2
        go_roundg (gk - 1)
        case measure => omega
        case rel => exact ⟨j + 1, by simp, by omega, by omega, by omega, by rw [stoppedL_succ, HF.out, hst]; simp, rfl⟩
    · go_wp2
      go_ret
      refine ⟨?_, rfl⟩
      show Ending.returned (Value.bool false) = _
      rw [stoppedL_mono l i n j (by omega) HF.out]

set_option maxRecDepth 100000 in
set_option maxHeartbeats 400000 in
theorem loose_any (l : List RecM) (v : Value) (i n : Nat) (w : World) (hl : RecsAt w v l) (hn : n ≤ l.length) (hl2 : l.length ≤ 1000) (hi : i ≤ n) :
    Calls Try.prog 149 #[v, .int .i64 i, .int .i64 n] w fun e w' => e = .returned (.int .i64 (looseL l i n)) ∧ w' = w := by
  go_enter Try.func149, Try.ntmps149
  go_wp2
  go_loopg [7, 8] 2000 (fun g a c wr => ∃ j : Nat, c = .int .i64 j ∧ j ≤ i ∧ g + j = 2000 ∧ a = .int .i64 (looseL l j n) ∧ wr = w)
  case atStart => exact ⟨0, rfl, by omega, by omega, rfl, rfl⟩
  case round =>
    obtain ⟨j, rfl, hji, hg, rfl, rfl⟩ := hrel
    by_cases hj : j < i
    · have hst := fun w h => stopped_any l v j n w h hn hl2 (by omega)
      obtain ⟨g, cap, rfl, hc, c0, c1, c2⟩ := hl.cells (show j < l.length by omega)
      have hjl : (j : Int) < (l.length : Int) := by omega
      have hle := looseL_le l j n
      have hsu := looseL_succ l j n
      cases hs : (l.getD j default).stop with
      | true =>
        rw [hs] at c0 hsu
        have HS : Hid (looseL l (j + 1) n = looseL l j n) := by show looseL l (j + 1) n = looseL l j n; rw [hsu]; simp
        clear hsu
        go_wp2_with (go_at_call 148; refine (hst _ hl).mono ?_; rintro e w' ⟨rfl, hw⟩; rw [hw]; clear hw w')
        go_roundg (gk - 1)
        case measure => omega
        case rel => exact ⟨j + 1, by simp, by omega, by omega, by rw [HS.out], rfl⟩
      | false =>
        rw [hs] at c0 hsu
        cases hq : stoppedL l j n with
        | true =>
          rw [hq] at hst hsu
          have HS : Hid (looseL l (j + 1) n = looseL l j n) := by show looseL l (j + 1) n = looseL l j n; rw [hsu]; simp
          clear hsu
          go_wp2_with (go_at_call 148; refine (hst _ hl).mono ?_; rintro e w' ⟨rfl, hw⟩; rw [hw]; clear hw w')
          go_roundg (gk - 1)
          case measure => omega
          case rel => exact ⟨j + 1, by simp, by omega, by omega, by rw [HS.out], rfl⟩
        | false =>
          rw [hq] at hst hsu
          have HS : Hid (looseL l (j + 1) n = looseL l j n + 1) := by show looseL l (j + 1) n = looseL l j n + 1; rw [hsu]; simp
          clear hsu
          go_wp2_with (go_at_call 148; refine (hst _ hl).mono ?_; rintro e w' ⟨rfl, hw⟩; rw [hw]; clear hw w')
          go_roundg (gk - 1)
          case measure => omega
          case rel => exact ⟨j + 1, by simp, by omega, by omega, by rw [HS.out]; simp, rfl⟩
    · obtain rfl : j = i := by omega
      go_wp2
      go_ret
      exact ⟨rfl, rfl⟩

theorem byte_49 (c : UInt8) : ((c.toNat : Int) == 49) = (c == 49) := by
  rw [Bool.eq_iff_iff, beq_iff_eq, beq_iff_eq]
  constructor
  · intro h; apply UInt8.toNat_inj.1; show c.toNat = 49; omega
  · rintro rfl; rfl

set_option maxRecDepth 100000 in
set_option maxHeartbeats 400000 in
theorem written_any (l : List RecM) (v : Value) (i n : Nat) (k : ByteArray) (w : World) (hl : RecsAt w v l) (hn : n ≤ l.length) (hl2 : l.length ≤ 1000) (hi : i < n) (hk : k.size ≤ maxLen) :
    Calls Try.prog 118 #[v, .int .i64 i, .int .i64 n, .string k] w fun e w' => e = .returned (.bool (writtenL l i n k.data.toList)) ∧ w' = w := by
  unfold maxLen at hk
  have hst := fun w h => stopped_any l v i n w h hn hl2 (by omega)
  have hlo := fun w h => loose_any l v i n w h hn hl2 (by omega)
  obtain ⟨g, cap, rfl, hc, c0, c1, c2⟩ := hl.cells (show i < l.length by omega)
  have hil : (i : Int) < (l.length : Int) := by omega
  cases hs : (l.getD i default).stop with
  | true =>
    rw [hs] at c0
    have e1 : writtenL l i n k.data.toList = false := by rw [writtenL, hs]; rfl
    rw [e1]
    clear e1
    go_enter Try.func118, Try.ntmps118
    go_wp2
    go_ret
    exact ⟨rfl, rfl⟩
  | false =>
    rw [hs] at c0
    cases hq : stoppedL l i n with
    | true =>
      rw [hq] at hst
      have e1 : writtenL l i n k.data.toList = true := by rw [writtenL, hs, hq]; rfl
      rw [e1]
      clear e1
      go_enter Try.func118, Try.ntmps118
      go_wp2_with (go_at_call 148; refine (hst _ hl).mono ?_; rintro e w' ⟨rfl, hw⟩; rw [hw]; clear hw w')
      go_ret
      exact ⟨rfl, rfl⟩
    | false =>
      rw [hq] at hst
      have e1 : writtenL l i n k.data.toList = (decide (looseL l i n < k.size) && k.data.toList.getD (looseL l i n) 0 == 49) := by rw [writtenL, hs, hq, len_list]; rfl
      rw [e1]
      clear e1
      have hll := looseL_le l i n
      obtain ⟨q, hqq⟩ : ∃ q, q = looseL l i n := ⟨_, rfl⟩
      rw [← hqq] at hlo hll ⊢
      clear hqq
      by_cases hq : q < k.size
      · have e2 : k.data.toList.getD q 0 = k[q] := by have := getD_drop k 0 q (by omega); simpa using this
        rw [e2, decide_eq_true hq, Bool.true_and]
        clear e2
        go_enter Try.func118, Try.ntmps118
        go_wp2_with (first | (go_at_call 148; refine (hst _ hl).mono ?_; rintro e w' ⟨rfl, hw⟩; rw [hw]; clear hw w') | (go_at_call 149; refine (hlo _ hl).mono ?_; rintro e w' ⟨rfl, hw⟩; rw [hw]; clear hw w'))
        go_ret
        refine ⟨?_, rfl⟩
        show Ending.returned (Value.bool ((k[q].toNat : Int) == 49)) = _
        rw [byte_49]
      · rw [decide_eq_false hq, Bool.false_and]
        go_enter Try.func118, Try.ntmps118
        go_wp2_with (first | (go_at_call 148; refine (hst _ hl).mono ?_; rintro e w' ⟨rfl, hw⟩; rw [hw]; clear hw w') | (go_at_call 149; refine (hlo _ hl).mono ?_; rintro e w' ⟨rfl, hw⟩; rw [hw]; clear hw w'))
        go_ret
        exact ⟨rfl, rfl⟩

theorem secL_ext (d : ByteArray) (s : Nat) : (d.extract (s * 32) (s * 32 + 32)).data.toList = secL d.data.toList s := by
  simp [ByteArray.data_extract, secL]
theorem secL_size (d : ByteArray) (s : Nat) (h : s * 32 + 32 ≤ d.size) : (secL d.data.toList s).length = 32 := by
  rw [secL, List.length_take, List.length_drop, len_list]; omega

/-- Each piece of data has 32 bytes, or none. -/
def dataOk (l : List RecM) : Prop := ∀ r ∈ l, r.data.length ≤ 32
theorem dataF_len (d : List UInt8) (l : List RecM) (n : Nat) (keep : List UInt8) (s : Nat) (hl : dataOk l) (h : (secL d s).length ≤ 32) : ∀ i, (dataF d l n keep s i).length ≤ 32
  | 0 => h
  | i + 1 => by
    rw [dataF]
    split
    · rcases Nat.lt_or_ge i l.length with hi | hi
      · rw [List.getD_eq_getElem?_getD, List.getElem?_eq_getElem hi]; exact hl _ (List.getElem_mem hi)
      · rw [List.getD_eq_getElem?_getD, List.getElem?_eq_none hi]; exact Nat.zero_le _
    · exact dataF_len d l n keep s hl h i
theorem leftF_len (d : List UInt8) (l : List RecM) (n : Nat) (keep : List UInt8) (hl : dataOk l) : ∀ s, (leftF d l n keep s).length ≤ 32 * s
  | 0 => Nat.le_refl _
  | s + 1 => by
    rw [leftF, List.length_append]
    have h1 := leftF_len d l n keep hl s
    have h2 := dataF_len d l n keep s hl (by rw [secL, List.length_take]; exact Nat.min_le_left _ _) n
    omega

set_option maxRecDepth 100000 in
set_option maxHeartbeats 1000000 in
theorem left_any (d : ByteArray) (l : List RecM) (v : Value) (n : Nat) (k : ByteArray) (w : World) (hd : d.size % 32 = 0) (hd2 : d.size ≤ 1280) (hl : RecsAt w v l) (hn : n ≤ l.length) (hl2 : l.length ≤ 1000) (hk : k.size ≤ maxLen) (hok : dataOk l) :
    Calls Try.prog 69 #[.string d, v, .int .i64 n, .string k] w fun e w' => e = .returned (.string (str (leftL d.data.toList l n k.data.toList))) ∧ w' = w := by
  have hwr := fun i hi w h => written_any l v i n k w h hn hl2 hi hk
  unfold maxLen at hk
  go_enter Try.func69, Try.ntmps69
  go_wp2
  go_loopg [9, 10] 41 (fun g a c wr => ∃ s : Nat, ∃ m : ByteArray, c = .int .i64 s ∧ a = .string m ∧ s * 32 ≤ d.size ∧ g + s = 41 ∧ m.size ≤ 1280 ∧ m = str (leftF d.data.toList l n k.data.toList s) ∧ wr = w)
  case atStart => exact ⟨0, _, rfl, rfl, by omega, by omega, Nat.zero_le _, rfl, rfl⟩
  case round =>
    obtain ⟨s, m, rfl, rfl, hs1, hg, hms, hm, rfl⟩ := hrel
    have HM : Hid (m = str (leftF d.data.toList l n k.data.toList s)) := hm
    clear hm
    by_cases hlt : s * 32 < d.size
    · have hlt' : (s : Int) * 32 < (d.size : Int) := by omega
      go_wp2
      go_loopg [11, 12] (n + 1) (fun g a c wx => ∃ i : Nat, ∃ x : ByteArray, c = .int .i64 i ∧ a = .string x ∧ i ≤ n ∧ g + i = n + 1 ∧ x.size ≤ 32 ∧ x = str (dataF d.data.toList l n k.data.toList s i) ∧ wx = wr)
      case atStart =>
        refine ⟨0, _, rfl, rfl, by omega, by omega, ?_, ?_, rfl⟩
        · rw [← len_list, secL_ext, secL, List.length_take]; exact Nat.min_le_left _ _
        · rw [← str_of (d.extract _ _), secL_ext]; rfl
      case round =>
        obtain ⟨i, x, rfl, rfl, hi1, hg2, hxs, hx, rfl⟩ := hrel
        have HX : Hid (x = str (dataF d.data.toList l n k.data.toList s i)) := hx
        clear hx
        by_cases hin : i < n
        · have hwr1 := hwr i hin
          clear hwr
          obtain ⟨g, cap, rfl, hc, c0, c1, c2⟩ := hl.cells (show i < l.length by omega)
          have hil : (i : Int) < (l.length : Int) := by omega
          have hdl : (l.getD i default).data.length ≤ 32 := hok _ (by rw [List.getD_eq_getElem?_getD, List.getElem?_eq_getElem (show i < l.length by omega)]; exact List.getElem_mem _)
          by_cases hto : (l.getD i default).to = s
          · have hto' : ((l.getD i default).to : Int) = (s : Int) := by omega
            rw [hto] at c1
            cases hst : (l.getD i default).stop with
            | true =>
              rw [hst] at c0
              have HD : Hid (dataF d.data.toList l n k.data.toList s (i + 1) = dataF d.data.toList l n k.data.toList s i) := by
                show _ = _
                rw [dataF, if_neg]; rintro ⟨_, h⟩; rw [writtenL, hst] at h; cases h
              go_wp2
              go_roundg (gk - 1)
              case measure => omega
              case rel => exact ⟨i + 1, x, by simp, rfl, by omega, by omega, hxs, by rw [HD.out]; exact HX.out, rfl⟩
            | false =>
              rw [hst] at c0
              cases hwq : writtenL l i n k.data.toList with
              | true =>
                rw [hwq] at hwr1
                have HD : Hid (dataF d.data.toList l n k.data.toList s (i + 1) = (l.getD i default).data) := by
                  show _ = _
                  rw [dataF, if_pos ⟨hto, hwq⟩]
                go_wp2_with (go_at_call 118; refine (hwr1 _ hl).mono ?_; rintro e w' ⟨rfl, hw⟩; rw [hw]; clear hw w')
                go_roundg (gk - 1)
                case measure => omega
                case rel => exact ⟨i + 1, _, by simp, rfl, by omega, by omega, by rw [str_size, ← List.getD_eq_getElem?_getD]; exact hdl, by rw [HD.out, List.getD_eq_getElem?_getD], rfl⟩
              | false =>
                rw [hwq] at hwr1
                have HD : Hid (dataF d.data.toList l n k.data.toList s (i + 1) = dataF d.data.toList l n k.data.toList s i) := by
                  show _ = _
                  rw [dataF, if_neg]; rintro ⟨_, h⟩; rw [hwq] at h; cases h
                go_wp2_with (go_at_call 118; refine (hwr1 _ hl).mono ?_; rintro e w' ⟨rfl, hw⟩; rw [hw]; clear hw w')
                go_roundg (gk - 1)
                case measure => omega
                case rel => exact ⟨i + 1, x, by simp, rfl, by omega, by omega, hxs, by rw [HD.out]; exact HX.out, rfl⟩
          · have hto' : ¬ ((l.getD i default).to : Int) = (s : Int) := by omega
            obtain ⟨q, hq⟩ : ∃ q, q = (l.getD i default).to := ⟨_, rfl⟩
            have HD : Hid (dataF d.data.toList l n k.data.toList s (i + 1) = dataF d.data.toList l n k.data.toList s i) := by
              show _ = _
              rw [dataF, if_neg (fun h => hto h.1)]
            rw [← hq] at c1 hto'
            clear hto hq
            go_wp2
            go_roundg (gk - 1)
            case measure => omega
            case rel => exact ⟨i + 1, x, by simp, rfl, by omega, by omega, hxs, by rw [HD.out]; exact HX.out, rfl⟩
        · obtain rfl : i = n := by omega
          go_wp2
          go_roundg (41 - (s + 1))
          case measure => omega
          case rel =>
            refine ⟨s + 1, _, by simp, rfl, by omega, by omega, ?_, ?_, rfl⟩
            · rw [HM.out, HX.out, str_append, str_size]
              have := leftF_len d.data.toList l i k.data.toList hok (s + 1)
              rw [leftF] at this
              omega
            · rw [HM.out, HX.out, str_append]; rfl
    · go_wp2
      go_ret
      refine ⟨?_, rfl⟩
      show Ending.returned (Value.string m) = _
      rw [HM.out, leftL, len_list, show d.size / 32 = s by omega]
end Go.Proofs.Ytabpkohcimiceaa
