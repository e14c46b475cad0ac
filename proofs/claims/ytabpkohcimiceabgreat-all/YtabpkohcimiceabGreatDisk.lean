import Derived.Test.YtabpkohcimiceabGreatSeal
namespace Go.Proofs.YtabpkohcimiceabGreat
set_option maxRecDepth 100000
set_option maxHeartbeats 1000000
open Go.RowKit
set_option linter.unusedVariables false
theorem zeros_any (n : Int) (w : World) (h0 : -1000000 ≤ n) (h1 : n ≤ 1000000) :
    Calls Tryz.prog 19 #[.int .i64 n] w fun e w' => e = .returned (.string (str (List.replicate n.toNat 0))) ∧ w' = w := by
  by_cases hn : n < 1
  · have e : n.toNat = 0 := by omega
    rw [e]
    go_enter Tryz.func19, Tryz.ntmps19
    go_wp2; go_ret; exact ⟨rfl, rfl⟩
  obtain ⟨n, rfl⟩ := Int.eq_ofNat_of_zero_le (show 0 ≤ n by omega)
  go_enter Tryz.func19, Tryz.ntmps19
  go_wp2
  go_loopg [3] 1000000 (fun g v wr => ∃ k : Nat, ∃ m : ByteArray, v = .string m ∧ 1 ≤ k ∧ k ≤ 2000000 ∧ 1000001 ≤ g + k ∧ m.size = k ∧ m = str (List.replicate k 0) ∧ wr = w)
  case atStart => exact ⟨1, _, rfl, by omega, by omega, by omega, rfl, rfl, rfl⟩
  case round =>
    obtain ⟨k, m, rfl, hk1, hk2, hg, hms, hm, rfl⟩ := hrel; have HM : Hid (m = str (List.replicate k 0)) := hm; clear hm
    by_cases hlt : k < n
    · go_wp2
      go_roundg (1000001 - (k + k))
      case measure => omega
      case rel =>
        refine ⟨k + k, _, rfl, by omega, by omega, by omega, ?_, ?_, rfl⟩
        · rw [HM.out, str_append, str_size]; simp
        · rw [HM.out, str_append, List.replicate_append_replicate]
    · go_wp2; go_ret
      refine ⟨?_, rfl⟩
      show Ending.returned (Value.string (m.extract 0 n)) = _
      rw [← str_of (m.extract 0 n), ext_take, HM.out, str_toList, List.take_replicate, Nat.min_eq_left (by omega)]
      simp
theorem isDisk_any (s : ByteArray) (w : World) (hs : s.size ≤ maxLen) :
    Calls Tryz.prog 79 #[.string s] w fun e w' => e = .returned (.bool (isDiskL s.data.toList)) ∧ w' = w := by
  unfold maxLen at hs
  go_enter Tryz.func79, Tryz.ntmps79
  go_wp2
  go_loopg [3] 40 (fun g v wr => ∃ k : Nat, v = .int .i64 k ∧ 1 ≤ k ∧ k ≤ 41 ∧ g + k = 41 ∧ (∀ m, 1 ≤ m → m < k → s.size ≠ m * 32) ∧ wr = w)
  case atStart => exact ⟨1, rfl, by omega, by omega, by omega, by omega, rfl⟩
  case round =>
    obtain ⟨k, rfl, hk1, hk2, hg, hm, rfl⟩ := hrel; have HM : Hid (∀ m, 1 ≤ m → m < k → s.size ≠ m * 32) := hm; clear hm
    by_cases hk : k ≤ 40
    · by_cases he : s.size = k * 32
      · have he' : (s.size : Int) = (k : Int) * 32 := by omega
        go_wp2; go_ret
        refine ⟨?_, rfl⟩
        show Ending.returned (Value.bool true) = _
        rw [isDiskL, decide_eq_true (by rw [len_list]; omega)]
      · have he' : ¬ (s.size : Int) = (k : Int) * 32 := by omega
        go_wp2
        go_roundg (gk - 1)
        case measure => omega
        case rel =>
          refine ⟨k + 1, by simp, by omega, by omega, by omega, ?_, rfl⟩
          intro m h1 h2
          rcases Nat.lt_or_ge m k with h | h
          · exact HM.out m h1 h
          · obtain rfl : m = k := by omega
            exact he
    · go_wp2; go_ret
      refine ⟨?_, rfl⟩
      show Ending.returned (Value.bool false) = _
      rw [isDiskL, decide_eq_false]; rw [len_list]
      intro h
      exact HM.out (s.size / 32) (by omega) (by omega) (by omega)
theorem RecsAt.cells {w : World} {v : Value} {l : List RecM} (h : RecsAt w v l) {j : Nat} (hj : j < l.length) : ∃ g cap, v = .slice (some ⟨g, 0, none⟩) l.length cap ∧ l.length ≤ cap ∧ w.cell? ⟨g, j * 3, none⟩ = some (.bool (l.getD j default).stop) ∧ w.cell? ⟨g, j * 3 + 1, none⟩ = some (.int .i64 ((l.getD j default).to : Int)) ∧ w.cell? ⟨g, j * 3 + 2, none⟩ = some (.string (str (l.getD j default).data)) := by
  have e : l.getD j default = l[j] := by rw [List.getD_eq_getElem?_getD, List.getElem?_eq_getElem hj]; rfl
  rcases h with ⟨_, rfl⟩ | ⟨g, cap, h1, h2, _, h4⟩
  · simp at hj
  · rw [e]; exact ⟨g, cap, h1, h2, h4 j hj⟩
theorem stopped_any (l : List RecM) (v : Value) (i n : Nat) (w : World) (hl : RecsAt w v l) (hn : n ≤ l.length) (hl2 : l.length ≤ 1000) (hi : i ≤ 1000) :
    Calls Tryz.prog 151 #[v, .int .i64 i, .int .i64 n] w fun e w' => e = .returned (.bool (stoppedL l i n)) ∧ w' = w := by
  go_enter Tryz.func151, Tryz.ntmps151
  go_wp2
  go_loopg [7] 2000 (fun g c wr => ∃ j : Nat, c = .int .i64 j ∧ i < j ∧ g + j ≤ 2000 + i + 1 ∧ 2000 + i + 1 ≤ g + j ∧ stoppedL l i j = false ∧ wr = w)
  case atStart => exact ⟨i + 1, by simp, by omega, by omega, by omega, stoppedL_le _ _ _ (Nat.le_refl _), rfl⟩
  case round =>
    obtain ⟨j, rfl, hij, hg1, hg2, hf, rfl⟩ := hrel; have HF : Hid (stoppedL l i j = false) := hf; clear hf
    by_cases hj : j < n
    · obtain ⟨g, cap, rfl, hc, c0, c1, c2⟩ := hl.cells (show j < l.length by omega)
      have hjl : (j : Int) < (l.length : Int) := by omega
      cases hst : (l.getD j default).stop with
      | true =>
        rw [hst] at c0
        go_wp2; go_ret
        refine ⟨?_, rfl⟩
        show Ending.returned (Value.bool true) = _
        rw [stoppedL_hit l i j n hij hj hst]
      | false =>
        rw [hst] at c0
        go_wp2
        go_roundg (gk - 1)
        case measure => omega
        case rel => exact ⟨j + 1, by simp, by omega, by omega, by omega, by rw [stoppedL_succ, HF.out, hst]; simp, rfl⟩
    · go_wp2; go_ret
      refine ⟨?_, rfl⟩
      show Ending.returned (Value.bool false) = _
      rw [stoppedL_mono l i n j (by omega) HF.out]
theorem loose_any (l : List RecM) (v : Value) (i n : Nat) (w : World) (hl : RecsAt w v l) (hn : n ≤ l.length) (hl2 : l.length ≤ 1000) (hi : i ≤ n) :
    Calls Tryz.prog 152 #[v, .int .i64 i, .int .i64 n] w fun e w' => e = .returned (.int .i64 (looseL l i n)) ∧ w' = w := by
  go_enter Tryz.func152, Tryz.ntmps152
  go_wp2
  go_loopg [7, 8] 2000 (fun g a c wr => ∃ j : Nat, c = .int .i64 j ∧ j ≤ i ∧ g + j = 2000 ∧ a = .int .i64 (looseL l j n) ∧ wr = w)
  case atStart => exact ⟨0, rfl, by omega, by omega, rfl, rfl⟩
  case round =>
    obtain ⟨j, rfl, hji, hg, rfl, rfl⟩ := hrel
    by_cases hj : j < i
    · have hst := fun w h => stopped_any l v j n w h hn hl2 (by omega)
      obtain ⟨g, cap, rfl, hc, c0, c1, c2⟩ := hl.cells (show j < l.length by omega)
      have hjl : (j : Int) < (l.length : Int) := by omega
      have hle := looseL_le l j n; have hsu := looseL_succ l j n
      cases hs : (l.getD j default).stop with
      | true =>
        rw [hs] at c0 hsu
        have HS : Hid (looseL l (j + 1) n = looseL l j n) := by show looseL l (j + 1) n = looseL l j n; rw [hsu]; simp
        clear hsu
        go_wp2_with (go_at_call 151; refine (hst _ hl).mono ?_; rintro e w' ⟨rfl, hw⟩; rw [hw]; clear hw w')
        go_roundg (gk - 1)
        case measure => omega
        case rel => exact ⟨j + 1, by simp, by omega, by omega, by rw [HS.out], rfl⟩
      | false =>
        rw [hs] at c0 hsu
        cases hq : stoppedL l j n with
        | true =>
          rw [hq] at hst hsu
          have HS : Hid (looseL l (j + 1) n = looseL l j n) := by show looseL l (j + 1) n = looseL l j n; rw [hsu]; simp
          clear hsu
          go_wp2_with (go_at_call 151; refine (hst _ hl).mono ?_; rintro e w' ⟨rfl, hw⟩; rw [hw]; clear hw w')
          go_roundg (gk - 1)
          case measure => omega
          case rel => exact ⟨j + 1, by simp, by omega, by omega, by rw [HS.out], rfl⟩
        | false =>
          rw [hq] at hst hsu
          have HS : Hid (looseL l (j + 1) n = looseL l j n + 1) := by show looseL l (j + 1) n = looseL l j n + 1; rw [hsu]; simp
          clear hsu
          go_wp2_with (go_at_call 151; refine (hst _ hl).mono ?_; rintro e w' ⟨rfl, hw⟩; rw [hw]; clear hw w')
          go_roundg (gk - 1)
          case measure => omega
          case rel => exact ⟨j + 1, by simp, by omega, by omega, by rw [HS.out]; simp, rfl⟩
    · obtain rfl : j = i := by omega
      go_wp2; go_ret; exact ⟨rfl, rfl⟩
theorem byte_49 (c : UInt8) : ((c.toNat : Int) == 49) = (c == 49) := by
  rw [Bool.eq_iff_iff, beq_iff_eq, beq_iff_eq]
  constructor
  · intro h; apply UInt8.toNat_inj.1; show c.toNat = 49; omega
  · rintro rfl; rfl
theorem written_any (l : List RecM) (v : Value) (i n : Nat) (k : ByteArray) (w : World) (hl : RecsAt w v l) (hn : n ≤ l.length) (hl2 : l.length ≤ 1000) (hi : i < n) (hk : k.size ≤ maxLen) :
    Calls Tryz.prog 128 #[v, .int .i64 i, .int .i64 n, .string k] w fun e w' => e = .returned (.bool (writtenL l i n k.data.toList)) ∧ w' = w := by
  unfold maxLen at hk
  have hst := fun w h => stopped_any l v i n w h hn hl2 (by omega)
  have hlo := fun w h => loose_any l v i n w h hn hl2 (by omega)
  obtain ⟨g, cap, rfl, hc, c0, c1, c2⟩ := hl.cells (show i < l.length by omega)
  have hil : (i : Int) < (l.length : Int) := by omega
  cases hs : (l.getD i default).stop with
  | true =>
    rw [hs] at c0
    have e1 : writtenL l i n k.data.toList = false := by rw [writtenL, hs]; rfl
    rw [e1]; clear e1
    go_enter Tryz.func128, Tryz.ntmps128
    go_wp2; go_ret; exact ⟨rfl, rfl⟩
  | false =>
    rw [hs] at c0
    cases hq : stoppedL l i n with
    | true =>
      rw [hq] at hst
      have e1 : writtenL l i n k.data.toList = true := by rw [writtenL, hs, hq]; rfl
      rw [e1]; clear e1
      go_enter Tryz.func128, Tryz.ntmps128
      go_wp2_with (go_at_call 151; refine (hst _ hl).mono ?_; rintro e w' ⟨rfl, hw⟩; rw [hw]; clear hw w')
      go_ret; exact ⟨rfl, rfl⟩
    | false =>
      rw [hq] at hst
      have e1 : writtenL l i n k.data.toList = (decide (looseL l i n < k.size) && k.data.toList.getD (looseL l i n) 0 == 49) := by rw [writtenL, hs, hq, len_list]; rfl
      rw [e1]; clear e1; have hll := looseL_le l i n
      obtain ⟨q, hqq⟩ : ∃ q, q = looseL l i n := ⟨_, rfl⟩
      rw [← hqq] at hlo hll ⊢
      clear hqq
      by_cases hq : q < k.size
      · have e2 : k.data.toList.getD q 0 = k[q] := by have := getD_drop k 0 q (by omega); simpa using this
        rw [e2, decide_eq_true hq, Bool.true_and]; clear e2
        go_enter Tryz.func128, Tryz.ntmps128
        go_wp2_with (first | (go_at_call 151; refine (hst _ hl).mono ?_; rintro e w' ⟨rfl, hw⟩; rw [hw]; clear hw w') | (go_at_call 152; refine (hlo _ hl).mono ?_; rintro e w' ⟨rfl, hw⟩; rw [hw]; clear hw w'))
        go_ret
        refine ⟨?_, rfl⟩
        show Ending.returned (Value.bool ((k[q].toNat : Int) == 49)) = _
        rw [byte_49]
      · rw [decide_eq_false hq, Bool.false_and]
        go_enter Tryz.func128, Tryz.ntmps128
        go_wp2_with (first | (go_at_call 151; refine (hst _ hl).mono ?_; rintro e w' ⟨rfl, hw⟩; rw [hw]; clear hw w') | (go_at_call 152; refine (hlo _ hl).mono ?_; rintro e w' ⟨rfl, hw⟩; rw [hw]; clear hw w'))
        go_ret; exact ⟨rfl, rfl⟩
theorem secL_ext (d : ByteArray) (s : Nat) : (d.extract (s * 32) (s * 32 + 32)).data.toList = secL d.data.toList s := by
  simp [ByteArray.data_extract, secL]
def dataOk (l : List RecM) : Prop := ∀ r ∈ l, r.data.length ≤ 32
theorem dataF_len (d : List UInt8) (l : List RecM) (n : Nat) (keep : List UInt8) (s : Nat) (hl : dataOk l) (h : (secL d s).length ≤ 32) : ∀ i, (dataF d l n keep s i).length ≤ 32
  | 0 => h
  | i + 1 => by
    rw [dataF]
    split
    · rcases Nat.lt_or_ge i l.length with hi | hi
      · rw [List.getD_eq_getElem?_getD, List.getElem?_eq_getElem hi]; exact hl _ (List.getElem_mem hi)
      · rw [List.getD_eq_getElem?_getD, List.getElem?_eq_none hi]; exact Nat.zero_le _
    · exact dataF_len d l n keep s hl h i
theorem leftF_len (d : List UInt8) (l : List RecM) (n : Nat) (keep : List UInt8) (hl : dataOk l) : ∀ s, (leftF d l n keep s).length ≤ 32 * s
  | 0 => Nat.le_refl _
  | s + 1 => by
    rw [leftF, List.length_append]; have h1 := leftF_len d l n keep hl s
    have h2 := dataF_len d l n keep s hl (by rw [secL, List.length_take]; exact Nat.min_le_left _ _) n
    omega
theorem left_any (d : ByteArray) (l : List RecM) (v : Value) (n : Nat) (k : ByteArray) (w : World) (hd : d.size % 32 = 0) (hd2 : d.size ≤ 1280) (hl : RecsAt w v l) (hn : n ≤ l.length) (hl2 : l.length ≤ 1000) (hk : k.size ≤ maxLen) (hok : dataOk l) :
    Calls Tryz.prog 81 #[.string d, v, .int .i64 n, .string k] w fun e w' => e = .returned (.string (str (leftL d.data.toList l n k.data.toList))) ∧ w' = w := by
  have hwr := fun i hi w h => written_any l v i n k w h hn hl2 hi hk
  unfold maxLen at hk
  go_enter Tryz.func81, Tryz.ntmps81
  go_wp2
  go_loopg [9, 10] 41 (fun g a c wr => ∃ s : Nat, ∃ m : ByteArray, c = .int .i64 s ∧ a = .string m ∧ s * 32 ≤ d.size ∧ g + s = 41 ∧ m.size ≤ 1280 ∧ m = str (leftF d.data.toList l n k.data.toList s) ∧ wr = w)
  case atStart => exact ⟨0, _, rfl, rfl, by omega, by omega, Nat.zero_le _, rfl, rfl⟩
  case round =>
    obtain ⟨s, m, rfl, rfl, hs1, hg, hms, hm, rfl⟩ := hrel; have HM : Hid (m = str (leftF d.data.toList l n k.data.toList s)) := hm; clear hm
    by_cases hlt : s * 32 < d.size
    · have hlt' : (s : Int) * 32 < (d.size : Int) := by omega
      go_wp2
      go_loopg [11, 12] (n + 1) (fun g a c wx => ∃ i : Nat, ∃ x : ByteArray, c = .int .i64 i ∧ a = .string x ∧ i ≤ n ∧ g + i = n + 1 ∧ x.size ≤ 32 ∧ x = str (dataF d.data.toList l n k.data.toList s i) ∧ wx = wr)
      case atStart =>
        refine ⟨0, _, rfl, rfl, by omega, by omega, ?_, ?_, rfl⟩
        · rw [← len_list, secL_ext, secL, List.length_take]; exact Nat.min_le_left _ _
        · rw [← str_of (d.extract _ _), secL_ext]; rfl
      case round =>
        obtain ⟨i, x, rfl, rfl, hi1, hg2, hxs, hx, rfl⟩ := hrel; have HX : Hid (x = str (dataF d.data.toList l n k.data.toList s i)) := hx; clear hx
        by_cases hin : i < n
        · have hwr1 := hwr i hin; clear hwr
          obtain ⟨g, cap, rfl, hc, c0, c1, c2⟩ := hl.cells (show i < l.length by omega)
          have hil : (i : Int) < (l.length : Int) := by omega
          have hdl : (l.getD i default).data.length ≤ 32 := hok _ (by rw [List.getD_eq_getElem?_getD, List.getElem?_eq_getElem (show i < l.length by omega)]; exact List.getElem_mem _)
          by_cases hto : (l.getD i default).to = s
          · have hto' : ((l.getD i default).to : Int) = (s : Int) := by omega
            rw [hto] at c1
            cases hst : (l.getD i default).stop with
            | true =>
              rw [hst] at c0
              have HD : Hid (dataF d.data.toList l n k.data.toList s (i + 1) = dataF d.data.toList l n k.data.toList s i) := by
                show _ = _
                rw [dataF, if_neg]; rintro ⟨_, h⟩; rw [writtenL, hst] at h; cases h
              go_wp2
              go_roundg (gk - 1)
              case measure => omega
              case rel => exact ⟨i + 1, x, by simp, rfl, by omega, by omega, hxs, by rw [HD.out]; exact HX.out, rfl⟩
            | false =>
              rw [hst] at c0
              cases hwq : writtenL l i n k.data.toList with
              | true =>
                rw [hwq] at hwr1
                have HD : Hid (dataF d.data.toList l n k.data.toList s (i + 1) = (l.getD i default).data) := by
                  show _ = _
                  rw [dataF, if_pos ⟨hto, hwq⟩]
                go_wp2_with (go_at_call 128; refine (hwr1 _ hl).mono ?_; rintro e w' ⟨rfl, hw⟩; rw [hw]; clear hw w')
                go_roundg (gk - 1)
                case measure => omega
                case rel => exact ⟨i + 1, _, by simp, rfl, by omega, by omega, by rw [str_size, ← List.getD_eq_getElem?_getD]; exact hdl, by rw [HD.out, List.getD_eq_getElem?_getD], rfl⟩
              | false =>
                rw [hwq] at hwr1
                have HD : Hid (dataF d.data.toList l n k.data.toList s (i + 1) = dataF d.data.toList l n k.data.toList s i) := by
                  show _ = _
                  rw [dataF, if_neg]; rintro ⟨_, h⟩; rw [hwq] at h; cases h
                go_wp2_with (go_at_call 128; refine (hwr1 _ hl).mono ?_; rintro e w' ⟨rfl, hw⟩; rw [hw]; clear hw w')
                go_roundg (gk - 1)
                case measure => omega
                case rel => exact ⟨i + 1, x, by simp, rfl, by omega, by omega, hxs, by rw [HD.out]; exact HX.out, rfl⟩
          · have hto' : ¬ ((l.getD i default).to : Int) = (s : Int) := by omega
            obtain ⟨q, hq⟩ : ∃ q, q = (l.getD i default).to := ⟨_, rfl⟩
            have HD : Hid (dataF d.data.toList l n k.data.toList s (i + 1) = dataF d.data.toList l n k.data.toList s i) := by
              show _ = _
              rw [dataF, if_neg (fun h => hto h.1)]
            rw [← hq] at c1 hto'
            clear hto hq; go_wp2
            go_roundg (gk - 1)
            case measure => omega
            case rel => exact ⟨i + 1, x, by simp, rfl, by omega, by omega, hxs, by rw [HD.out]; exact HX.out, rfl⟩
        · obtain rfl : i = n := by omega
          go_wp2
          go_roundg (41 - (s + 1))
          case measure => omega
          case rel =>
            refine ⟨s + 1, _, by simp, rfl, by omega, by omega, ?_, ?_, rfl⟩
            · rw [HM.out, HX.out, str_append, str_size]
              have := leftF_len d.data.toList l i k.data.toList hok (s + 1)
              rw [leftF] at this
              omega
            · rw [HM.out, HX.out, str_append]; rfl
    · go_wp2; go_ret
      refine ⟨?_, rfl⟩
      show Ending.returned (Value.string m) = _
      rw [HM.out, leftL, len_list, show d.size / 32 = s by omega]
theorem Tryz.infoRec : (Tryz.prog.info? 128).map (fun i => (i.zero, i.size, i.bytes)) = some (some (.agg #[.bool false, .int .i64 0, .string ⟨#[]⟩]), 3, 32) := by kernel_rfl
def RecsOut (w w' : World) (r : Option (List RecM)) (e : Ending) : Prop :=
  match r with
  | none => e = .returned (.tuple #[.slice none 0 0, .bool false])
  | some l => ∃ v, e = .returned (.tuple #[v, .bool true]) ∧ w'.ownsRow w.heap.size 128 3 v l.length (recsCells l)
theorem recsF_stop (n k : Nat) (m : ByteArray) (h0 : 0 < m.size) (h : m[0] = 255) : recsF n (k + 1) m.data.toList = (recsF n k (m.data.toList.drop 1)).map (⟨true, 255, []⟩ :: ·) := by
  have hs := self_at m.data.toList 0 (by rw [len_list]; exact h0)
  have e : m.data.toList.getD 0 0 = m[0] := by have := getD_drop m 0 0 (by omega); simpa using this
  rw [e] at hs
  simp only [List.take_zero, List.nil_append, Nat.zero_add] at hs
  conv => lhs; rw [hs]
  rw [recsF, if_pos h]
theorem recsF_bad (n k : Nat) (m : ByteArray) (h0 : 0 < m.size) (h : m[0] ≠ 255) (hb : n ≤ m[0].toNat ∨ m.size < 33) : recsF n k m.data.toList = none := by
  have hs := self_at m.data.toList 0 (by rw [len_list]; exact h0)
  have e : m.data.toList.getD 0 0 = m[0] := by have := getD_drop m 0 0 (by omega); simpa using this
  rw [e] at hs
  simp only [List.take_zero, List.nil_append, Nat.zero_add] at hs
  rw [hs]
  cases k with
  | zero => rw [recsF]
  | succ k => rw [recsF, if_neg h, if_pos]; rw [List.length_drop, len_list]; omega
theorem recsF_write (n k : Nat) (m : ByteArray) (h0 : 0 < m.size) (h : m[0] ≠ 255) (hb1 : m[0].toNat < n) (hb2 : 33 ≤ m.size) : recsF n (k + 1) m.data.toList = (recsF n k (m.data.toList.drop 33)).map (⟨false, m[0].toNat, (m.data.toList.drop 1).take 32⟩ :: ·) := by
  have hs := self_at m.data.toList 0 (by rw [len_list]; exact h0)
  have e : m.data.toList.getD 0 0 = m[0] := by have := getD_drop m 0 0 (by omega); simpa using this
  rw [e] at hs
  simp only [List.take_zero, List.nil_append, Nat.zero_add] at hs
  conv => lhs; rw [hs]
  rw [recsF, if_neg h, if_neg (by rw [List.length_drop, len_list]; omega), List.drop_drop]
theorem recsF_over (n : Nat) (m : ByteArray) (h0 : 0 < m.size) : recsF n 0 m.data.toList = none := by
  have hs := self_at m.data.toList 0 (by rw [len_list]; exact h0)
  rw [hs]; rfl
theorem ext_1_33 (m : ByteArray) : (m.extract 1 33).data.toList = (m.data.toList.drop 1).take 32 := by simp [ByteArray.data_extract]
theorem heap_new_set (wc : World) (a : Addr) (v : Value) (o : Obj) : ((wc.setCell a v).alloc o).heap[wc.heap.size]? = some o := by
  have h := heap_alloc_new (wc.setCell a v) o
  rwa [World.size_setCell] at h
theorem grown_below {w X w2 : World} {v : Value} {n : Nat} {xs : List Value} {e : TypeId} {size : Nat} (hb : Below w.heap.size w X) (hown : X.ownsRow w.heap.size e size v n xs) (hg : X.grownBy w2 v.ownBlock) : Below w.heap.size w w2 :=
  hb.grown hg hb.size (fun k hk => (hown.lt k hk).1)
theorem recs_push (done : List RecM) (r : RecM) : recsCells (done ++ [r]) = recsCells done ++ recCells r := by
  rw [recsCells_append]; simp [recsCells]
theorem map_push (r : RecM) (done : List RecM) (o : Option (List RecM)) : ((o.map (r :: ·)).map (done ++ ·)) = o.map ((done ++ [r]) ++ ·) := by
  cases o <;> simp
structure RecVar (wr wc : World) (st : Bool) (goes : Int) : Prop where
  below : Below wr.heap.size wr wc
  size : wr.heap.size < wc.heap.size
  c0 : wc.cell? ⟨wr.heap.size, 0, none⟩ = some (.bool st)
  c1 : wc.cell? ⟨wr.heap.size, 1, none⟩ = some (.int .i64 goes)
  c2 : wc.cell? ⟨wr.heap.size, 2, none⟩ = some (.string ⟨#[]⟩)
  f2 : wc.frozen? ⟨wr.heap.size, 2, none⟩ = false
theorem records_any (p : ByteArray) (n : Nat) (w : World) (hp : p.size ≤ maxLen) (hn : n ≤ 1000) :
    Calls Tryz.prog 80 #[.string p, .int .i64 n] w fun e w' => RecsOut w w' (recsL p.data.toList n) e ∧ Below w.heap.size w w' := by
  obtain ⟨i0, hi0, hz0, hz1, hz2⟩ := info_parts Tryz.infoRec
  unfold maxLen at hp
  go_enter Tryz.func80, Tryz.ntmps80
  go_wp2
  go_loopg [6, 7] 101 (fun g v r wr => ∃ (done : List RecM) (m : ByteArray), r = .string m ∧ m.size ≤ 9223372036854775807 ∧ done.length + g = 101 ∧ 1 ≤ g ∧ recsL p.data.toList n = (recsF n (g - 1) m.data.toList).map (done ++ ·) ∧ wr.ownsRow w.heap.size 128 3 v done.length (recsCells done) ∧ Below w.heap.size w wr)
  case atStart =>
    refine ⟨[], p, rfl, by omega, rfl, by omega, ?_, World.ownsRow_nil _ _ _ _, Below.refl _ _⟩
    show recsF n 100 _ = _
    cases recsF n 100 p.data.toList <;> rfl
  case round =>
    obtain ⟨done, m, rfl, hm, hg1, hg2, hr, hown, hb⟩ := hrel; have HR : Hid (recsL p.data.toList n = (recsF n (gk - 1) m.data.toList).map (done ++ ·)) := hr; have HB := hid hb; have hsz := hb.size; clear hr hb
    by_cases h0 : 0 < m.size
    · have hne : (m.toList == ([] : List UInt8)) = false := by
        rw [ByteArray.toList_eq]
        have := ne_nil m h0
        cases hh : m.data.toList with
        | nil => exact absurd hh this
        | cons a b => rfl
      have h0I : (0 : Int) < (m.size : Int) := by omega
      by_cases h255 : m[0] = 255
      · have hq : ((m[0].toNat : Int) == 255) = true := by rw [h255]; rfl
        go_upto_region 4 with fail
        go_cut [8] (fun q wx => q = .pointer (some ⟨wr.heap.size, 0, none⟩) ∧ RecVar wr wx true 255)
        case first =>
          go_region
          go_wp2_with fail
          go_meet
          case rel =>
            refine ⟨rfl, ?_, ?_, ?_, ?_, ?_, ?_⟩
            · repeat (first | exact Below.refl _ _ | apply Below.drew | (refine Below.setCell ?_ (by simp) _) | (refine Below.alloc ?_ (by first | exact Nat.le_refl _ | simp) _))
            · simp
            · simp [go_sem]
            · simp [go_sem]
            · simp [go_sem]
            · simp [go_sem]
        case rest =>
          obtain ⟨rfl, hV⟩ := hcut; obtain ⟨hbc, hzc, c0, c1, c2, f2⟩ := hV; have hownc := ownsRow_below hown hbc; have HBC := hid hbc; clear hbc
          by_cases hlast : gk = 1
          · subst hlast
            have hdl : done.length = 100 := by omega
            go_wp2_with (at_builtin; refine wpList_append_lies _ rfl (.tmp 37) (.tmp 39) _ rfl w.heap.size 128 i0 _ 3 32 Tryz.underlying124 hi0 hz0 hz1 hz2 rfl (by omega) u6 done.length (recsCells done) rfl (hownc.alloc _) ⟨wc.heap.size, 0, none⟩ 1 1 [.bool true, .int .i64 255, .string ⟨#[]⟩] rfl rfl (World.news_of_block (cs := #[.bool true, .int .i64 255, .string ⟨#[]⟩]) (t := 128) (fr := (0, 0)) (heap_alloc_new _ _)) (by simp [Value.oneCell']) (by omega) (by unfold maxLen; omega) (by omega) (by simp; omega) (wc.heap.size + 1) (by simp) ?_; intro gg cap w2 hown2 hgrow hat hlt2)
            go_ret2
            refine ⟨?_, ?_⟩
            · have e : recsL p.data.toList n = none := by rw [HR.out, show 1 - 1 = 0 from rfl, recsF_over n m h0]; rfl
              rw [e]; rfl
            · exact grown_below ((below_tr HB.out HBC.out).alloc (by have := HB.out.size; omega) _) (hownc.alloc _) hgrow
          · have hdl : done.length < 100 := by omega
            go_wp2_with (at_builtin; refine wpList_append_lies _ rfl (.tmp 37) (.tmp 39) _ rfl w.heap.size 128 i0 _ 3 32 Tryz.underlying124 hi0 hz0 hz1 hz2 rfl (by omega) u6 done.length (recsCells done) rfl (hownc.alloc _) ⟨wc.heap.size, 0, none⟩ 1 1 [.bool true, .int .i64 255, .string ⟨#[]⟩] rfl rfl (World.news_of_block (cs := #[.bool true, .int .i64 255, .string ⟨#[]⟩]) (t := 128) (fr := (0, 0)) (heap_alloc_new _ _)) (by simp [Value.oneCell']) (by omega) (by unfold maxLen; omega) (by omega) (by simp; omega) (wc.heap.size + 1) (by simp) ?_; intro gg cap w2 hown2 hgrow hat hlt2)
            go_roundg (gk - 1)
            case measure => omega
            case rel =>
              have el : (done ++ [(⟨true, 255, []⟩ : RecM)]).length = done.length + 1 := by simp
              refine ⟨done ++ [⟨true, 255, []⟩], m.extract 1 m.size, rfl, by simp; omega, by rw [el]; omega, by omega, ?_, ?_, ?_⟩
              · obtain ⟨q, hq⟩ : ∃ q, gk = q + 2 := ⟨gk - 2, by omega⟩
                rw [HR.out, hq, show q + 2 - 1 = q + 1 by omega, recsF_stop n q m h0 h255, map_push, show q + 1 - 1 = q by omega, ext_drop]
              · rw [el, recs_push]; exact hown2
              · exact grown_below ((below_tr HB.out HBC.out).alloc (by have := HB.out.size; omega) _) (hownc.alloc _) hgrow
      · have hq : ((m[0].toNat : Int) == 255) = false := by
          rw [beq_eq_false_iff_ne]; intro h
          exact h255 (UInt8.toNat_inj.1 (by show m[0].toNat = 255; omega))
        have hb0 := m[0].toNat_lt
        go_upto_region 4 with fail
        go_cut [8] (fun q wx => q = .pointer (some ⟨wr.heap.size, 0, none⟩) ∧ RecVar wr wx false (m[0].toNat : Int))
        case first =>
          go_region
          go_wp2_with fail
          go_meet
          case rel =>
            refine ⟨rfl, ?_, ?_, ?_, ?_, ?_, ?_⟩
            · repeat (first | exact Below.refl _ _ | apply Below.drew | (refine Below.setCell ?_ (by simp) _) | (refine Below.alloc ?_ (by first | exact Nat.le_refl _ | simp) _))
            · simp
            · simp [go_sem]
            · simp [go_sem]
            · simp [go_sem]
            · simp [go_sem]
        case rest =>
          obtain ⟨rfl, hV⟩ := hcut; obtain ⟨hbc, hzc, c0, c1, c2, f2⟩ := hV; have HBC := hid hbc; clear hbc
          by_cases hbad : n ≤ m[0].toNat ∨ m.size < 33
          · have e : recsL p.data.toList n = none := by rw [HR.out, recsF_bad n _ m h0 h255 hbad]; rfl
            have HE : Hid (recsL p.data.toList n = none) := e; clear e
            rcases hbad with hbad | hbad
            · have hbI : (n : Int) ≤ (m[0].toNat : Int) := by omega
              go_wp2; go_ret2; rw [HE.out]; exact ⟨rfl, below_tr HB.out HBC.out⟩
            · by_cases hbn : n ≤ m[0].toNat
              · have hbI : (n : Int) ≤ (m[0].toNat : Int) := by omega
                go_wp2; go_ret2; rw [HE.out]; exact ⟨rfl, below_tr HB.out HBC.out⟩
              · have hbI : ¬ (n : Int) ≤ (m[0].toNat : Int) := by omega
                have hbS : (m.size : Int) < 33 := by omega
                go_wp2; go_ret2; rw [HE.out]; exact ⟨rfl, below_tr HB.out HBC.out⟩
          · have hb1 : m[0].toNat < n := by omega
            have hb2 : 33 ≤ m.size := by omega
            have hbI : ¬ (n : Int) ≤ (m[0].toNat : Int) := by omega
            have hbS : ¬ (m.size : Int) < 33 := by omega
            have hownc := ownsRow_below hown (HBC.out.setCell (p := ⟨wr.heap.size, 2, none⟩) (Nat.le_refl _) (.string (m.extract 1 33))); clear hbad
            by_cases hlast : gk = 1
            · subst hlast
              have hdl : done.length = 100 := by omega
              go_wp2_with (at_builtin; refine wpList_append_lies _ rfl (.tmp 37) (.tmp 39) _ rfl w.heap.size 128 i0 _ 3 32 Tryz.underlying124 hi0 hz0 hz1 hz2 rfl (by omega) u6 done.length (recsCells done) rfl (hownc.alloc _) ⟨wc.heap.size, 0, none⟩ 1 1 [.bool false, .int .i64 (m[0].toNat : Int), .string (m.extract 1 33)] rfl rfl (World.news_of_block (cs := #[.bool false, .int .i64 (m[0].toNat : Int), .string (m.extract 1 33)]) (t := 128) (fr := (0, 0)) (heap_new_set _ _ _ _)) (by simp [Value.oneCell']) (by omega) (by unfold maxLen; omega) (by omega) (by simp; omega) (wc.heap.size + 1) (by simp) ?_; intro gg cap w2 hown2 hgrow hat hlt2)
              go_ret2
              refine ⟨?_, ?_⟩
              · have e : recsL p.data.toList n = none := by rw [HR.out, show 1 - 1 = 0 from rfl, recsF_over n m h0]; rfl
                rw [e]; rfl
              · exact grown_below ((below_tr HB.out (HBC.out.setCell (p := ⟨wr.heap.size, 2, none⟩) (Nat.le_refl _) _)).alloc (by have := HB.out.size; simp; omega) _) (hownc.alloc _) hgrow
            · have hdl : done.length < 100 := by omega
              go_wp2_with (at_builtin; refine wpList_append_lies _ rfl (.tmp 37) (.tmp 39) _ rfl w.heap.size 128 i0 _ 3 32 Tryz.underlying124 hi0 hz0 hz1 hz2 rfl (by omega) u6 done.length (recsCells done) rfl (hownc.alloc _) ⟨wc.heap.size, 0, none⟩ 1 1 [.bool false, .int .i64 (m[0].toNat : Int), .string (m.extract 1 33)] rfl rfl (World.news_of_block (cs := #[.bool false, .int .i64 (m[0].toNat : Int), .string (m.extract 1 33)]) (t := 128) (fr := (0, 0)) (heap_new_set _ _ _ _)) (by simp [Value.oneCell']) (by omega) (by unfold maxLen; omega) (by omega) (by simp; omega) (wc.heap.size + 1) (by simp) ?_; intro gg cap w2 hown2 hgrow hat hlt2)
              go_roundg (gk - 1)
              case measure => omega
              case rel =>
                have el : (done ++ [(⟨false, m[0].toNat, (m.data.toList.drop 1).take 32⟩ : RecM)]).length = done.length + 1 := by simp
                refine ⟨done ++ [⟨false, m[0].toNat, (m.data.toList.drop 1).take 32⟩], m.extract 33 m.size, rfl, by simp; omega, by rw [el]; omega, by omega, ?_, ?_, ?_⟩
                · obtain ⟨q, hq⟩ : ∃ q, gk = q + 2 := ⟨gk - 2, by omega⟩
                  rw [HR.out, hq, show q + 2 - 1 = q + 1 by omega, recsF_write n q m h0 h255 hb1 hb2, map_push, show q + 1 - 1 = q by omega, ext_drop]
                · rw [el, recs_push]; exact by rw [recCells, ← ext_1_33, str_of]; exact hown2
                · exact grown_below ((below_tr HB.out (HBC.out.setCell (p := ⟨wr.heap.size, 2, none⟩) (Nat.le_refl _) _)).alloc (by have := HB.out.size; simp; omega) _) (hownc.alloc _) hgrow
    · have hnil := is_nil m h0
      have hemp : (m.toList == ([] : List UInt8)) = true := by rw [ByteArray.toList_eq, hnil]; rfl
      have HN : Hid (m.data.toList = []) := hnil; clear hnil; go_wp2; go_ret2
      have e : recsL p.data.toList n = some done := by
        rw [HR.out, HN.out]
        cases gk - 1 <;> simp [recsF]
      rw [e]; exact ⟨⟨_, rfl, hown⟩, HB.out⟩
end Go.Proofs.YtabpkohcimiceabGreat
namespace Go.Proofs.YtabpkohcimiceabGreat
set_option maxRecDepth 100000
set_option maxHeartbeats 1000000
open Go.RowKit
set_option linter.unusedVariables false
def crashR (d p : List UInt8) (n : Int) (k : List UInt8) : List UInt8 × Int :=
  if isDiskL d = true then
    match recsL p (d.length / 32) with
    | none => ([], 7)
    | some l => if n < 0 ∨ (l.length : Int) < n then ([], 3) else if 100 < k.length then ([], 2) else (leftL d l n.toNat k, 0)
  else ([], 6)
def applyR (d p : List UInt8) : List UInt8 × Int :=
  if isDiskL d = true then
    match recsL p (d.length / 32) with
    | none => ([], 7)
    | some l => (leftL d (l ++ [⟨true, 0, []⟩]) (l.length + 1) [], 0)
  else ([], 6)
theorem dataOk_of {n : Nat} {l : List RecM} (h : ∀ r ∈ l, r.ok n) : dataOk l := by
  intro r hr
  rcases h r hr with ⟨_, _, h⟩ | ⟨_, _, _, h⟩
  · rw [h]; exact Nat.zero_le _
  · rw [h]; exact Nat.le_refl _
theorem RecsAt.form {w : World} {v : Value} {l : List RecM} (h : RecsAt w v l) : ∃ a cap, v = .slice a l.length cap := by
  rcases h with ⟨h1, h2⟩ | ⟨g, cap, h1, _⟩
  · exact ⟨none, 0, by rw [h1, h2]; rfl⟩
  · exact ⟨_, cap, h1⟩
theorem refCrash_any (d p : ByteArray) (n : Int) (k : ByteArray) (w : World) (hd : d.size ≤ maxLen) (hp : p.size ≤ maxLen) (hk : k.size ≤ maxLen) :
    Calls Tryz.prog 39 #[.string d, .string p, .int .i64 n, .string k] w fun e w' => e = .returned (.tuple #[.string (str (crashR d.data.toList p.data.toList n k.data.toList).1), .int .i64 (crashR d.data.toList p.data.toList n k.data.toList).2]) ∧ Below w.heap.size w w' := by
  have c1 := fun w => isDisk_any d w hd
  cases hD : isDiskL d.data.toList with
  | false =>
    rw [hD] at c1
    have e1 : crashR d.data.toList p.data.toList n k.data.toList = ([], 6) := by rw [crashR, if_neg (by rw [hD]; simp)]
    rw [e1]; clear e1
    go_enter Tryz.func39, Tryz.ntmps39
    go_wp2_with (go_at_call 79; refine (c1 _).mono ?_; rintro e w' ⟨rfl, hw⟩; rw [hw]; clear hw w')
    go_ret2; exact ⟨rfl, Below.refl _ _⟩
  | true =>
    rw [hD] at c1
    have hD' : d.size % 32 = 0 ∧ 32 ≤ d.size ∧ d.size ≤ 1280 := by rw [isDiskL, decide_eq_true_eq, len_list] at hD; exact hD
    obtain ⟨hd1, hd2, hd3⟩ := hD'
    have hq : (d.size : Int) / 32 = ((d.size / 32 : Nat) : Int) := by omega
    have c2 := fun w => records_any p (d.size / 32) w hp (by omega)
    cases hR : recsL p.data.toList (d.size / 32) with
    | none =>
      have e1 : crashR d.data.toList p.data.toList n k.data.toList = ([], 7) := by rw [crashR, if_pos hD, len_list, hR]
      rw [e1]; clear e1
      have c3 : ∀ w, Calls Tryz.prog 80 #[.string p, .int .i64 ((d.size : Int) / 32)] w fun e w' => e = .returned (.tuple #[.slice none 0 0, .bool false]) ∧ Below w.heap.size w w' := by
        intro w; have := c2 w; rw [hR, ← hq] at this; exact this
      clear c2 hq hR hD
      go_enter Tryz.func39, Tryz.ntmps39
      go_wp2_with (first | (go_at_call 79; refine (c1 _).mono ?_; rintro e w' ⟨rfl, hw⟩; rw [hw]; clear hw w') | (go_at_call 80; refine (c3 _).mono ?_; rintro e w2 ⟨rfl, hb⟩))
      go_ret2; exact ⟨rfl, hb⟩
    | some l =>
      obtain ⟨hl1, hl2⟩ := recsF_ok _ _ _ _ hR
      have c3 : ∀ w, Calls Tryz.prog 80 #[.string p, .int .i64 ((d.size : Int) / 32)] w fun e w' => ∃ v, e = .returned (.tuple #[v, .bool true]) ∧ RecsAt w' v l ∧ Below w.heap.size w w' := by
        intro w; have := c2 w; rw [hR, ← hq] at this
        exact this.mono fun e w' ⟨⟨v, h1, h2⟩, h3⟩ => ⟨v, h1, .of_own h2, h3⟩
      have hE : crashR d.data.toList p.data.toList n k.data.toList = if n < 0 ∨ (l.length : Int) < n then ([], 3) else if 100 < k.data.toList.length then ([], 2) else (leftL d.data.toList l n.toNat k.data.toList, 0) := by rw [crashR, if_pos hD, len_list, hR]
      have hdo := dataOk_of hl2; clear c2 hq hR hD hl2
      go_enter Tryz.func39, Tryz.ntmps39
      go_upto_region 7 with (first | (go_at_call 79; refine (c1 _).mono ?_; rintro e w' ⟨rfl, hw⟩; rw [hw]; clear hw w') | (go_at_call 80; refine (c3 _).mono ?_; rintro e w2 ⟨v, rfl, hv, hb⟩))
      obtain ⟨a, cap, hva⟩ := hv.form; subst hva; have HV : Hid (RecsAt w2 (.slice a l.length cap) l) := hv
      have HE : Hid (crashR d.data.toList p.data.toList n k.data.toList = if n < 0 ∨ (l.length : Int) < n then ([], 3) else if 100 < k.data.toList.length then ([], 2) else (leftL d.data.toList l n.toNat k.data.toList, 0)) := hE
      clear hv hE c1 c3
      by_cases hn0 : n < 0
      · go_wp2; go_ret2; rw [HE.out, if_pos (.inl hn0)]; exact ⟨rfl, hb⟩
      by_cases hn1 : (l.length : Int) < n
      · go_wp2; go_ret2; rw [HE.out, if_pos (.inr hn1)]; exact ⟨rfl, hb⟩
      by_cases hk1 : 100 < k.size
      · go_wp2; go_ret2
        rw [HE.out, if_neg (by omega), if_pos (by rw [len_list]; exact hk1)]
        exact ⟨rfl, hb⟩
      have c4 : ∀ w, RecsAt w (.slice a l.length cap) l → Calls Tryz.prog 81 #[.string d, .slice a l.length cap, .int .i64 n, .string k] w fun e w' => e = .returned (.string (str (leftL d.data.toList l n.toNat k.data.toList))) ∧ w' = w := by
        intro w hh
        obtain ⟨q, rfl⟩ := Int.eq_ofNat_of_zero_le (show 0 ≤ n by omega)
        exact left_any d l _ q k w hd1 hd3 hh (by omega) (by omega) hk hdo
      go_wp2_with (go_at_call 81; refine (c4 _ HV.out).mono ?_; rintro e w3 ⟨rfl, hw⟩; rw [hw]; clear hw w3)
      go_ret2
      rw [HE.out, if_neg (by omega), if_neg (by rw [len_list]; exact hk1)]
      exact ⟨rfl, hb⟩
theorem refApply_any (d p : ByteArray) (w : World) (hd : d.size ≤ maxLen) (hp : p.size ≤ maxLen) :
    Calls Tryz.prog 37 #[.string d, .string p] w fun e w' => e = .returned (.tuple #[.string (str (applyR d.data.toList p.data.toList).1), .int .i64 (applyR d.data.toList p.data.toList).2]) ∧ Below w.heap.size w w' := by
  obtain ⟨i0, hi0, hz0, hz1, hz2⟩ := info_parts Tryz.infoRec
  have c1 := fun w => isDisk_any d w hd
  cases hD : isDiskL d.data.toList with
  | false =>
    rw [hD] at c1
    have e1 : applyR d.data.toList p.data.toList = ([], 6) := by rw [applyR, if_neg (by rw [hD]; simp)]
    rw [e1]; clear e1
    go_enter Tryz.func37, Tryz.ntmps37
    go_wp2_with (go_at_call 79; refine (c1 _).mono ?_; rintro e w' ⟨rfl, hw⟩; rw [hw]; clear hw w')
    go_ret2; exact ⟨rfl, Below.refl _ _⟩
  | true =>
    rw [hD] at c1
    have hD' : d.size % 32 = 0 ∧ 32 ≤ d.size ∧ d.size ≤ 1280 := by rw [isDiskL, decide_eq_true_eq, len_list] at hD; exact hD
    obtain ⟨hd1, hd2, hd3⟩ := hD'
    have hq : (d.size : Int) / 32 = ((d.size / 32 : Nat) : Int) := by omega
    have c2 := fun w => records_any p (d.size / 32) w hp (by omega)
    cases hR : recsL p.data.toList (d.size / 32) with
    | none =>
      have e1 : applyR d.data.toList p.data.toList = ([], 7) := by rw [applyR, if_pos hD, len_list, hR]
      rw [e1]; clear e1
      have c3 : ∀ w, Calls Tryz.prog 80 #[.string p, .int .i64 ((d.size : Int) / 32)] w fun e w' => e = .returned (.tuple #[.slice none 0 0, .bool false]) ∧ Below w.heap.size w w' := by
        intro w; have := c2 w; rw [hR, ← hq] at this; exact this
      clear c2 hq hR hD
      go_enter Tryz.func37, Tryz.ntmps37
      go_wp2_with (first | (go_at_call 79; refine (c1 _).mono ?_; rintro e w' ⟨rfl, hw⟩; rw [hw]; clear hw w') | (go_at_call 80; refine (c3 _).mono ?_; rintro e w2 ⟨rfl, hb⟩))
      go_ret2; exact ⟨rfl, hb⟩
    | some l =>
      obtain ⟨hl1, hl2⟩ := recsF_ok _ _ _ _ hR
      have c3 : ∀ w, Calls Tryz.prog 80 #[.string p, .int .i64 ((d.size : Int) / 32)] w fun e w' => ∃ v, e = .returned (.tuple #[v, .bool true]) ∧ w'.ownsRow w.heap.size 128 3 v l.length (recsCells l) ∧ Below w.heap.size w w' := by
        intro w; have := c2 w; rw [hR, ← hq] at this
        exact this.mono fun e w' ⟨⟨v, h1, h2⟩, h3⟩ => ⟨v, h1, h2, h3⟩
      have hE : applyR d.data.toList p.data.toList = (leftL d.data.toList (l ++ [⟨true, 0, []⟩]) (l.length + 1) [], 0) := by rw [applyR, if_pos hD, len_list, hR]
      have hdo : dataOk (l ++ [⟨true, 0, []⟩]) := by
        intro r hr
        rcases List.mem_append.1 hr with h | h
        · exact dataOk_of hl2 r h
        · rw [List.mem_singleton.1 h]; exact Nat.zero_le _
      rw [hE]; clear c2 hq hR hD hl2 hE
      have hll : (l ++ [(⟨true, 0, []⟩ : RecM)]).length = l.length + 1 := by simp
      go_enter Tryz.func37, Tryz.ntmps37
      go_upto_region 7 with (first | (go_at_call 79; refine (c1 _).mono ?_; rintro e w' ⟨rfl, hw⟩; rw [hw]; clear hw w') | (go_at_call 80; refine (c3 _).mono ?_; rintro e w2 ⟨v, rfl, hv, hb⟩))
      have hbs := hb.size; have HB := hid hb; clear hb
      go_wp2_with (first | (at_builtin; refine wpList_append_lies _ rfl (.tmp 24) (.tmp 26) _ rfl w.heap.size 128 i0 _ 3 32 Tryz.underlying124 hi0 hz0 hz1 hz2 rfl (by omega) v l.length (recsCells l) rfl (hv.alloc _) ⟨w2.heap.size, 0, none⟩ 1 1 [.bool true, .int .i64 0, .string ⟨#[]⟩] rfl rfl (World.news_of_block (cs := #[.bool true, .int .i64 0, .string ⟨#[]⟩]) (t := 128) (fr := (0, 0)) (heap_alloc_new _ _)) (by simp [Value.oneCell']) (by omega) (by unfold maxLen; omega) (by omega) (by simp; omega) (w2.heap.size + 1) (by simp) ?_; intro gg cap w3 hown2 hgrow hat hlt2) | fail)
      have hra : RecsAt w3 (.slice (some ⟨gg, 0, none⟩) (l.length + 1) cap) (l ++ [⟨true, 0, []⟩]) := by
        refine .of_own (base := w.heap.size) (e := 128) ?_
        rw [hll, recs_push]; exact hown2
      have c4 := left_any d (l ++ [⟨true, 0, []⟩]) _ (l.length + 1) ⟨#[]⟩ w3 hd1 hd3 hra (by rw [hll]; exact Nat.le_refl _) (by rw [hll]; omega) (by unfold maxLen; exact Nat.zero_le _) hdo
      have HB3 : Hid (Below w.heap.size w w3) := grown_below (HB.out.alloc hbs _) (hv.alloc _) hgrow
      have cst : ((l.length + 1 : Nat) : Int) = (l.length : Int) + 1 := by simp
      rw [cst] at c4
      clear hra hown2 hgrow hat hlt2 hv cst
      go_wp2_with (go_at_call 81; refine c4.mono ?_; rintro e w4 ⟨rfl, hw⟩; rw [hw]; clear hw w4)
      go_ret2; exact ⟨rfl, HB3.out⟩
end Go.Proofs.YtabpkohcimiceabGreat
