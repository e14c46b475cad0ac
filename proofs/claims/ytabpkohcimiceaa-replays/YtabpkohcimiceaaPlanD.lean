import Derived.Test.YtabpkohcimiceaaPlanM
import Derived.WalkKit
import Derived.WalkSpells
import Derived.WalkLawsBesides
import Derived.OwnWalk
import Derived.Deep.RegionHeld3
import Derived.Deep.DrawnRows
import Derived.Deep.DeepCutAuto
namespace Go.Proofs.Ytabpkohcimiceaa
open Go.RowKit
set_option linter.unusedVariables false

/-! ### Package plans: carrying out, and failing -/
set_option maxRecDepth 100000 in
set_option maxHeartbeats 400000 in
theorem do_any (d : ByteArray) (r : RecM) (k : Nat) (w : World) (hd : d.size = k * 32) (hd2 : k ≤ 1000) (hr : r.fit k) :
    Calls Try.prog 117 #[.string d, .agg #[.bool (devR r).stop, .int .i64 ((devR r).to : Int), .string (str (devR r).data)]] w fun e w' => e = .returned (.string (str (if r.stop = true then d.data.toList else putL d.data.toList r.to r.data))) ∧ Below w.heap.size w w' := by
  cases hs : r.stop with
  | true =>
    have e : devR r = ⟨true, 0, []⟩ := by rw [devR, if_pos hs]
    rw [e, if_pos rfl, str_of]
    clear e
    go_enter Try.func117, Try.ntmps117
    go_wp2
    go_ret
    exact ⟨rfl, (Below.refl _ _).alloc (Nat.le_refl _) _⟩
  | false =>
    rw [devR_data hs, if_neg (by simp)]
    obtain ⟨h1, h2⟩ := hr hs
    rw [hs]
    have c1 := fun w => write_any d (str r.data) k r.to w (by omega) hd h1 (by rw [str_size]; exact h2)
    rw [str_toList] at c1
    clear hs hr
    generalize r.to = t at *
    generalize r.data = b at *
    go_enter Try.func117, Try.ntmps117
    go_wp2_with (first | (go_at_call 147; refine (c1 _).mono ?_; rintro e w' ⟨rfl, hb⟩))
    go_ret
    exact ⟨rfl, below_tr ((Below.refl _ _).alloc (Nat.le_refl _) _) hb⟩

theorem carryF_length (d : List UInt8) (l : List RecM) (k : Nat) (hd : d.length = k * 32) (hl : ∀ r ∈ l, r.fit k) : ∀ i, i ≤ l.length → (carryF d l i).length = k * 32
  | 0, _ => hd
  | i + 1, hi => by
    rw [carryF]
    have ih := carryF_length d l k hd hl i (by omega)
    by_cases h : (l.getD i default).stop = true
    · rw [if_pos h]; exact ih
    · rw [if_neg h]
      obtain ⟨h1, h2⟩ := fit_at hl i (by omega) (by cases hh : (l.getD i default).stop with | true => exact absurd hh h | false => rfl)
      exact putL_length _ _ _ k ih h1 h2

/-- Records in memory, at a row's head. -/
structure RecsIn (w : World) (g cap : Nat) (l : List RecM) : Prop where
  lt : g < w.heap.size
  cap : l.length ≤ cap
  at_ : ∀ j, j < l.length → w.cell? ⟨g, j * 3, none⟩ = some (.bool (devR (l.getD j default)).stop) ∧ w.cell? ⟨g, j * 3 + 1, none⟩ = some (.int .i64 ((devR (l.getD j default)).to : Int)) ∧ w.cell? ⟨g, j * 3 + 2, none⟩ = some (.string (str (devR (l.getD j default)).data))
theorem RecsIn.next {w w' : World} {g cap : Nat} {l : List RecM} (h : RecsIn w g cap l) (hb : Below w.heap.size w w') : RecsIn w' g cap l := by
  refine ⟨Nat.lt_of_lt_of_le h.lt hb.size, h.cap, fun j hj => ?_⟩
  obtain ⟨a, b, c⟩ := h.at_ j hj
  exact ⟨(hb.cell (p := ⟨g, j * 3, none⟩) h.lt).trans a, (hb.cell (p := ⟨g, j * 3 + 1, none⟩) h.lt).trans b, (hb.cell (p := ⟨g, j * 3 + 2, none⟩) h.lt).trans c⟩
theorem RecsIn.of_own {w : World} {base g cap : Nat} {e : TypeId} {l : List RecM} (h : w.ownsRow base e 3 (.slice (some ⟨g, 0, none⟩) l.length cap) l.length (recsCells (devL l))) : RecsIn w g cap l := by
  have h' : w.ownsRow base e 3 (.slice (some ⟨g, 0, none⟩) l.length cap) (devL l).length (recsCells (devL l)) := by rw [devL_length]; exact h
  rcases RecsAt.of_own h' with ⟨h1, _⟩ | ⟨g', cap', h1, h2, h3, h4⟩
  · cases h1
  · injection h1 with q1 q2 q3
    injection q1 with q1
    injection q1 with q1
    subst q1 q3
    refine ⟨h3, by rw [devL_length] at h2; exact h2, fun j hj => ?_⟩
    have := h4 j (by rw [devL_length]; exact hj)
    rw [← devL_at l j hj, List.getD_eq_getElem?_getD, List.getElem?_eq_getElem (by rw [devL_length]; exact hj)]
    exact this

set_option maxRecDepth 100000 in
set_option maxHeartbeats 1000000 in
theorem carryOut_any (d : ByteArray) (l : List RecM) (g cap : Nat) (k : Nat) (w : World) (hd : d.size = k * 32) (hd2 : k ≤ 1000) (hr : ∀ r ∈ l, r.fit k) (hl : RecsIn w g cap l) (hl2 : l.length ≤ 1000) :
    Calls Try.prog 66 #[.string d, .slice (some ⟨g, 0, none⟩) l.length cap] w fun e w' => e = .returned (.string (str (carryF d.data.toList l l.length))) ∧ Below w.heap.size w w' := by
  have hdl := len_list d
  have hcap := hl.cap
  go_enter Try.func66, Try.ntmps66
  go_wp2
  go_loopg [0, 5] (l.length + 1) (fun gg v c wr => ∃ j : Nat, ∃ m : ByteArray, c = .int .i64 j ∧ v = .string m ∧ j ≤ l.length ∧ gg + j = l.length + 1 ∧ m.size = k * 32 ∧ m = str (carryF d.data.toList l j) ∧ Below w.heap.size w wr)
  case atStart => exact ⟨0, d, rfl, rfl, by omega, by omega, hd, by rw [carryF, str_of], Below.refl _ _⟩
  case round =>
    obtain ⟨j, m, rfl, rfl, hj, hg, hms, hm, hb⟩ := hrel
    have HM : Hid (m = str (carryF d.data.toList l j)) := hm
    have HB : Hid (Below w.heap.size w wr) := hb
    have hl' := hl.next hb
    clear hm hb
    by_cases hlt : j < l.length
    · obtain ⟨c0, c1, c2⟩ := hl'.at_ j hlt
      have hfit := fit_at hr j hlt
      have hI : (j : Int) < (l.length : Int) := by omega
      have hle := carryF_length d.data.toList l k (by rw [hdl]; exact hd) hr (j + 1) (by omega)
      have hd1 := fun w => do_any m (l.getD j default) k w hms hd2 hfit
      have HC : Hid (carryF d.data.toList l (j + 1) = if (l.getD j default).stop = true then carryF d.data.toList l j else putL (carryF d.data.toList l j) (l.getD j default).to (l.getD j default).data) := rfl
      have HL : Hid ((carryF d.data.toList l (j + 1)).length = k * 32) := hle
      clear hle
      obtain ⟨x, hx⟩ : ∃ x, x = str (if (l.getD j default).stop = true then m.data.toList else putL m.data.toList (l.getD j default).to (l.getD j default).data) := ⟨_, rfl⟩
      rw [← hx] at hd1
      have HX : Hid (x = str (carryF d.data.toList l (j + 1))) := by show _ = _; rw [hx, HM.out, str_toList, HC.out]
      clear hx HC
      generalize l.getD j default = r at *
      go_wp2_with (first | (go_at_call 117; refine (hd1 _).mono ?_; rintro e w2 ⟨rfl, hb2⟩))
      go_roundg (gk - 1)
      case measure => omega
      case rel =>
        exact ⟨j + 1, x, by simp, rfl, by omega, by omega, by rw [HX.out, str_size]; exact HL.out, HX.out, below_tr HB.out hb2⟩
    · obtain rfl : j = l.length := by omega
      go_wp2
      go_ret
      refine ⟨?_, HB.out⟩
      show Ending.returned (Value.string m) = _
      rw [HM.out]

set_option maxRecDepth 100000 in
set_option maxHeartbeats 400000 in
theorem lastBarrier_any (l : List RecM) (g cap n : Nat) (w : World) (hl : RecsIn w g cap l) (hn : n ≤ l.length) (hl2 : l.length ≤ 1000) :
    Calls Try.prog 119 #[.slice (some ⟨g, 0, none⟩) n cap] w fun e w' => e = .returned (.int .i64 (lastL l n)) ∧ w' = w := by
  have hcap := hl.cap
  go_enter Try.func119, Try.ntmps119
  go_wp2
  go_loopg [3] (n + 1) (fun gg c wr => ∃ m : Nat, c = .int .i64 ((m : Int) - 1) ∧ m ≤ n ∧ gg = m + 1 ∧ lastL l n = lastL l m ∧ wr = w)
  case atStart => exact ⟨n, rfl, by omega, rfl, rfl, rfl⟩
  case round =>
    obtain ⟨m, rfl, hm, rfl, hlm, rfl⟩ := hrel
    have HL : Hid (lastL l n = lastL l m) := hlm
    clear hlm
    cases m with
    | zero =>
      go_wp2
      go_ret
      rw [HL.out]
      exact ⟨rfl, rfl⟩
    | succ m =>
      obtain ⟨c0, c1, c2⟩ := hl.at_ m (by omega)
      rw [devR_stop] at c0
      have e1 : ((m + 1 : Nat) : Int) - 1 = (m : Int) := by omega
      rw [e1]
      clear e1 c1 c2
      have hI : (m : Int) < (n : Int) := by omega
      have e2 : lastL l (m + 1) = if (l.getD m default).stop = true then (m : Int) else lastL l m := rfl
      cases hs : (l.getD m default).stop with
      | true =>
        rw [hs, if_pos rfl] at e2
        rw [hs] at c0
        have HE : Hid (lastL l (m + 1) = (m : Int)) := e2
        clear hs e2
        go_wp2
        go_ret
        rw [HL.out, HE.out]
        exact ⟨rfl, rfl⟩
      | false =>
        rw [hs, if_neg (by simp)] at e2
        rw [hs] at c0
        have HE : Hid (lastL l (m + 1) = lastL l m) := e2
        clear hs e2
        go_wp2
        go_roundg (m + 1)
        case measure => omega
        case rel => exact ⟨m, rfl, by omega, rfl, HL.out.trans HE.out, rfl⟩

theorem keep_byte (k : List UInt8) (q : Nat) : (k.getD q 0 == 49) = (decide (q < k.length) && k.getD q 0 == 49) := by
  by_cases h : q < k.length
  · rw [decide_eq_true h, Bool.true_and]
  · rw [decide_eq_false h, getD_out k q (by omega)]; rfl

set_option maxRecDepth 100000 in
set_option maxHeartbeats 1000000 in
theorem fail_any (d : ByteArray) (l : List RecM) (g cap : Nat) (n k : Nat) (kp : ByteArray) (w : World) (hd : d.size = k * 32) (hd2 : k ≤ 1000) (hr : ∀ r ∈ l, r.fit k) (hl : RecsIn w g cap l) (hl2 : l.length ≤ 1000) (hn : n ≤ l.length) (hk : kp.size ≤ maxLen) :
    Calls Try.prog 70 #[.string d, .slice (some ⟨g, 0, none⟩) l.length cap, .int .i64 n, .string kp] w fun e w' => e = .returned (.string (str (runF d.data.toList l n kp.data.toList n))) ∧ Below w.heap.size w w' := by
  have hdl := len_list d
  have hcap := hl.cap
  have cl := fun w h => lastBarrier_any l g cap n w h hn hl2
  obtain ⟨f, hf⟩ : ∃ f, f = lastL l n := ⟨_, rfl⟩
  have hf1 := lastL_lt l n
  have hst : ∀ i, stoppedL l i n = decide ((i : Int) < f) := by intro i; rw [hf]; exact stopped_last l i n
  have HST : Hid (∀ i, stoppedL l i n = decide ((i : Int) < f)) := hst
  rw [← hf] at cl hf1
  have hnI : ¬ (l.length : Int) < (n : Int) := by omega
  have hncap : (n : Int) ≤ (cap : Int) := by omega
  clear hst hf
  go_enter Try.func70, Try.ntmps70
  go_wp2_with (first | (go_at_call 119; refine (cl _ hl).mono ?_; rintro e w' ⟨rfl, hw⟩; rw [hw]; clear hw w'))
  clear cl
  go_loopg [0, 10, 11] (n + 1) (fun gg v q c wr => ∃ j : Nat, ∃ m : ByteArray, c = .int .i64 j ∧ v = .string m ∧ q = .int .i64 (looseL l j n) ∧ j ≤ n ∧ gg + j = n + 1 ∧ m.size = k * 32 ∧ m = str (runF d.data.toList l n kp.data.toList j) ∧ Below w.heap.size w wr)
  case atStart => exact ⟨0, d, rfl, rfl, rfl, by omega, by omega, hd, by rw [runF, str_of], Below.refl _ _⟩
  case round =>
    obtain ⟨j, m, rfl, rfl, rfl, hj, hg, hms, hm, hb⟩ := hrel
    have HM : Hid (m = str (runF d.data.toList l n kp.data.toList j)) := hm
    have HB : Hid (Below w.heap.size w wr) := hb
    have hl' := hl.next hb
    clear hm hb
    by_cases hlt : j < n
    · obtain ⟨c0, c1, c2⟩ := hl'.at_ j (by omega)
      have hfit := fit_at hr j (by omega)
      have hI : (j : Int) < (n : Int) := by omega
      have hIl : (j : Int) < (l.length : Int) := by omega
      have HL : Hid ((runF d.data.toList l n kp.data.toList (j + 1)).length = k * 32) := runF_length d.data.toList l n k kp.data.toList (by rw [hdl]; exact hd) hr (j + 1) (by omega)
      have hd1 := fun w => do_any m (l.getD j default) k w hms hd2 hfit
      have hsu := looseL_succ l j n
      have hle := looseL_le l j n
      have hrun : runF d.data.toList l n kp.data.toList (j + 1) = if writtenL l j n kp.data.toList = true then putL (runF d.data.toList l n kp.data.toList j) (l.getD j default).to (l.getD j default).data else runF d.data.toList l n kp.data.toList j := rfl
      have hwr : writtenL l j n kp.data.toList = (!(l.getD j default).stop && (stoppedL l j n || (kp.data.toList.getD (looseL l j n) 0 == 49))) := by rw [writtenL, ← keep_byte]
      rw [HST.out j] at hsu hwr
      generalize l.getD j default = r at *
      generalize looseL l j n = q at *
      cases hs : r.stop with
      | true =>
        rw [hs] at hsu hwr
        have HS : Hid (looseL l (j + 1) n = q) := by show _ = _; rw [hsu]; simp
        have HR : Hid (runF d.data.toList l n kp.data.toList (j + 1) = runF d.data.toList l n kp.data.toList j) := by show _ = _; rw [hrun, hwr]; simp
        have e0 : devR r = ⟨true, 0, []⟩ := by rw [devR, if_pos hs]
        rw [e0] at c0
        clear hsu hwr hrun hd1 c1 c2 e0
        go_wp2
        go_roundg (gk - 1)
        case measure => omega
        case rel => exact ⟨j + 1, m, by simp, rfl, by rw [HS.out], by omega, by omega, hms, by rw [HR.out]; exact HM.out, HB.out⟩
      | false =>
        rw [hs] at hsu hwr hd1
        simp only [Bool.false_eq_true, if_false] at hd1
        rw [devR_stop, hs] at c0
        rw [devR_stop, hs] at hd1
        by_cases hjf : (j : Int) < f
        · rw [decide_eq_true hjf] at hsu hwr
          have HS : Hid (looseL l (j + 1) n = q) := by show _ = _; rw [hsu]; simp
          have HR : Hid (runF d.data.toList l n kp.data.toList (j + 1) = putL (runF d.data.toList l n kp.data.toList j) r.to r.data) := by show _ = _; rw [hrun, hwr]; simp
          clear hsu hwr hrun
          go_wp2_with (first | (go_at_call 117; refine (hd1 _).mono ?_; rintro e w2 ⟨rfl, hb2⟩))
          go_roundg (gk - 1)
          case measure => omega
          case rel =>
            have e : putL m.data.toList r.to r.data = runF d.data.toList l n kp.data.toList (j + 1) := by rw [HM.out, str_toList, HR.out]
            exact ⟨j + 1, _, by simp, rfl, by rw [HS.out], by omega, by omega, by rw [str_size, e]; exact HL.out, by rw [e], below_tr HB.out hb2⟩
        · rw [decide_eq_false hjf] at hsu hwr
          have HS : Hid (looseL l (j + 1) n = q + 1) := by show _ = _; rw [hsu]; simp
          have cb := fun w => tbyte_any kp (q : Int) w hk (by omega)
          rw [Int.toNat_natCast] at cb
          simp only [Bool.not_false, Bool.true_and, Bool.false_or] at hwr
          rw [hwr] at hrun
          have hbq : ((kp.data.toList.getD q 0).toNat : Int) = 49 ↔ (kp.data.toList.getD q 0 == 49) = true := by
            rw [beq_iff_eq]
            constructor
            · intro h; apply UInt8.toNat_inj.1; show _ = 49; omega
            · intro h; rw [h]; rfl
          generalize kp.data.toList.getD q 0 = cc at cb hrun hbq
          have hcc := cc.toNat_lt
          by_cases h49 : (cc.toNat : Int) = 49
          · have HR : Hid (runF d.data.toList l n kp.data.toList (j + 1) = putL (runF d.data.toList l n kp.data.toList j) r.to r.data) := by show _ = _; rw [hrun, if_pos (hbq.1 h49)]
            clear hsu hwr hrun hbq
            have h49' : ((cc.toNat : Int) == 49) = true := by rw [beq_iff_eq]; exact h49
            go_wp2_with (first | (go_at_call 120; refine (cb _).mono ?_; rintro e w' ⟨rfl, hw⟩; rw [hw]; clear hw w') | (go_at_call 117; refine (hd1 _).mono ?_; rintro e w2 ⟨rfl, hb2⟩))
            go_roundg (gk - 1)
            case measure => omega
            case rel =>
              have e : putL m.data.toList r.to r.data = runF d.data.toList l n kp.data.toList (j + 1) := by rw [HM.out, str_toList, HR.out]
              exact ⟨j + 1, _, by simp, rfl, by rw [HS.out]; simp, by omega, by omega, by rw [str_size, e]; exact HL.out, by rw [e], below_tr HB.out hb2⟩
          · have HR : Hid (runF d.data.toList l n kp.data.toList (j + 1) = runF d.data.toList l n kp.data.toList j) := by show _ = _; rw [hrun, if_neg (fun h => h49 (hbq.2 h))]
            clear hsu hwr hrun hbq
            have h49' : ((cc.toNat : Int) == 49) = false := by rw [beq_eq_false_iff_ne]; exact h49
            go_wp2_with (first | (go_at_call 120; refine (cb _).mono ?_; rintro e w' ⟨rfl, hw⟩; rw [hw]; clear hw w'))
            go_roundg (gk - 1)
            case measure => omega
            case rel => exact ⟨j + 1, m, by simp, rfl, by rw [HS.out]; simp, by omega, by omega, hms, by rw [HR.out]; exact HM.out, HB.out⟩
    · obtain rfl : j = n := by omega
      go_wp2
      go_ret
      refine ⟨?_, HB.out⟩
      show Ending.returned (Value.string m) = _
      rw [HM.out]
end Go.Proofs.Ytabpkohcimiceaa
