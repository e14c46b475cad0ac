import Derived.Test.YtabpkohcimiceabTwoB
namespace Go.Proofs.Ytabpkohcimiceab
set_option maxRecDepth 100000
set_option maxHeartbeats 1000000
open Go.RowKit
set_option linter.unusedVariables false
set_option linter.unusedSimpArgs false
def runL (l : List EntM) : Nat → Nat
  | 0 => 0
  | j + 1 => if 0 < j ∧ (l.getD (j - 1) default).step = (l.getD j default).step then runL l j + 1 else 1
theorem runL_le (l : List EntM) : ∀ j, j < l.length → runL l (j + 1) ≤ ofL (l.take (j + 1)) (l.getD j default).step
  | 0, h => by
    rw [runL, if_neg (by omega), ofL_take l _ 0 h, if_pos rfl]; omega
  | j + 1, h => by
    have ih := runL_le l j (by omega)
    rw [runL, ofL_take l _ (j + 1) h, if_pos rfl]
    by_cases q : 0 < j + 1 ∧ (l.getD (j + 1 - 1) default).step = (l.getD (j + 1) default).step
    · rw [if_pos q]; have q2 := q.2
      rw [Nat.add_sub_cancel] at q2
      rw [q2] at ih
      omega
    · rw [if_neg q]; omega
theorem ofL_take_le (l : List EntM) (st j : Nat) : ofL (l.take j) st ≤ ofL l st := ((List.take_sublist j l).filter _).length_le
theorem runL_skip {s : StM} (h : LawQ s) (j : Nat) (hj : j < s.kept.length) : runL s.kept (j + 1) ≤ s.skip :=
  Nat.le_trans (runL_le s.kept j hj) (Nat.le_trans (ofL_take_le _ _ _) (h.keys.of _ (getD_mem hj)))
theorem str_at {x : ByteArray} {l : List UInt8} (hx : x.data.toList = l) {i : Nat} (hi : i < x.size) {v : UInt8} (hv : l[i]? = some v) : x[i] = v := by
  have e : x.data.toList[i]? = some v := by rw [hx]; exact hv
  have hi2 : i < x.data.toList.length := by rw [Array.length_toList]; exact hi
  rw [List.getElem?_eq_getElem hi2] at e
  exact Option.some.inj e
theorem side_head {s : StM} (h : StOk s) (i : Nat) (hi : i < 8) : (sideL s)[i]? = (headL s)[i]? := by
  obtain ⟨z, hz⟩ := side_parts h
  rw [hz, List.getElem?_append_left (by show i < 8; exact hi)]
theorem side_ent {s : StM} (h : StOk s) (hk : s.kept.length ≤ s.cap) (i : Nat) (hi : i < s.kept.length) : (sideL s)[40 + 10 * i]? = some (UInt8.ofNat (s.kept.getD i default).step) ∧ (sideL s)[40 + 10 * i + 1]? = some (UInt8.ofNat (s.kept.getD i default).count) := by
  have hb := bodyL_length h
  have e0 : sideL s = bodyL s ++ (entsL s.kept ++ List.replicate (halfN s.cap * 32 - (bodyL s ++ entsL s.kept).length) 0) := by rw [sideL, fillL, List.append_assoc]
  have hd := ent_at s.kept (List.replicate (halfN s.cap * 32 - (bodyL s ++ entsL s.kept).length) 0) i (by obtain ⟨_, _, _, _, _, _, _, _, _, _, _, _, _, o13⟩ := h; exact o13) hi
  have de : (sideL s).drop (40 + 10 * i) = entL (s.kept.getD i default) ++ (entsL (s.kept.drop (i + 1)) ++ List.replicate (halfN s.cap * 32 - (bodyL s ++ entsL s.kept).length) 0) := by
    rw [← List.drop_drop, e0, drop_app _ _ 40 hb, hd]
  constructor
  · have : ((sideL s).drop (40 + 10 * i))[0]? = some (UInt8.ofNat (s.kept.getD i default).step) := by rw [de]; rfl
    rw [List.getElem?_drop] at this; exact this
  · have : ((sideL s).drop (40 + 10 * i))[1]? = some (UInt8.ofNat (s.kept.getD i default).count) := by rw [de]; rfl
    rw [List.getElem?_drop] at this; exact this
theorem side_rest {s : StM} (h : StOk s) : (sideL s).drop (40 + 10 * s.kept.length) = List.replicate (halfN s.cap * 32 - (40 + 10 * s.kept.length)) 0 := by
  have hb := bodyL_length h
  have he := entsL_length s.kept (by obtain ⟨_, _, _, _, _, _, _, _, _, _, _, _, _, o13⟩ := h; exact o13)
  have hl : (bodyL s ++ entsL s.kept).length = 40 + 10 * s.kept.length := by rw [List.length_append, hb, he]
  rw [sideL, fillL, drop_app _ _ _ hl, hl]
theorem noughts_zero (w : World) : Calls Try.prog 33 #[.int .i64 0] w fun e w' => e = .returned (.string (str (List.replicate 0 0))) ∧ w' = w := by
  go_enter Try.func33, Try.ntmps33
  go_wp2; go_ret; exact ⟨rfl, rfl⟩
theorem noughtsZ_any (m : Nat) (w : World) (h : m ≤ 1000000) : Calls Try.prog 33 #[.int .i64 m] w fun e w' => e = .returned (.string (str (List.replicate m 0))) ∧ w' = w := by
  rcases Nat.eq_zero_or_pos m with q | q
  · subst q; exact noughts_zero w
  · have := noughts_any (m : Int) w (by omega) (by omega)
    rw [Int.toNat_natCast] at this
    exact this
set_option maxHeartbeats 4000000 in
theorem kside_any (x : ByteArray) (s : StM) (w : World) (hx : x.data.toList = sideL s) (hq : LawQ s) (hok : StOk s) (hk : s.kept.length ≤ s.cap) (hsz : x.size = halfN s.cap * 32) :
    Calls Try.prog 34 #[.string x, .int .i64 s.skip, .int .i64 s.cap] w fun e w' => e = .returned (.bool true) ∧ Below w.heap.size w w' := by
  have hcap := hq.cap; have hst := hq.step; have hse := hq.sent; have hgo := hq.got; have hpr := hq.prev; have hsk := hq.skip
  have hhf : 40 + 10 * s.cap ≤ halfN s.cap * 32 ∧ halfN s.cap * 32 ≤ 1000 := by unfold halfN; omega
  have hs40 : 40 + 10 * s.kept.length ≤ x.size := by omega
  have hb1 : 1 < x.size := by omega
  have x1 : (x[1]'hb1).toNat = s.step := by
    rw [str_at hx hb1 (v := UInt8.ofNat s.step) (by rw [side_head hok 1 (by omega)]; rfl)]; exact ofNat_toNat _ (by omega)
  have hb2 : 2 < x.size := by omega
  have x2 : (x[2]'hb2).toNat = s.sent := by
    rw [str_at hx hb2 (v := UInt8.ofNat s.sent) (by rw [side_head hok 2 (by omega)]; rfl)]; exact ofNat_toNat _ (by omega)
  have hb3 : 3 < x.size := by omega
  have x3 : (x[3]'hb3).toNat = s.got := by
    rw [str_at hx hb3 (v := UInt8.ofNat s.got) (by rw [side_head hok 3 (by omega)]; rfl)]; exact ofNat_toNat _ (by omega)
  have hb4 : 4 < x.size := by omega
  have x4 : (x[4]'hb4).toNat = s.prev := by
    rw [str_at hx hb4 (v := UInt8.ofNat s.prev) (by rw [side_head hok 4 (by omega)]; rfl)]; exact ofNat_toNat _ (by omega)
  have hb5 : 5 < x.size := by omega
  have x5 : (x[5]'hb5).toNat = s.skip := by
    rw [str_at hx hb5 (v := UInt8.ofNat s.skip) (by rw [side_head hok 5 (by omega)]; rfl)]; exact ofNat_toNat _ (by omega)
  have hb6 : 6 < x.size := by omega
  have x6 : (x[6]'hb6).toNat = s.cap := by
    rw [str_at hx hb6 (v := UInt8.ofNat s.cap) (by rw [side_head hok 6 (by omega)]; rfl)]; exact ofNat_toNat _ (by omega)
  have hb7 : 7 < x.size := by omega
  have x7 : (x[7]'hb7).toNat = s.kept.length := by
    rw [str_at hx hb7 (v := UInt8.ofNat s.kept.length) (by rw [side_head hok 7 (by omega)]; rfl)]; exact ofNat_toNat _ (by omega)
  have HX := hid hx; have HQ := hid hq; have HOK := hid hok; have HKK := hid hk; have HSZ := hid hsz
  have hsz2 : x.size ≤ 1000 := by omega
  obtain ⟨n, hn⟩ : ∃ n, n = s.kept.length := ⟨_, rfl⟩
  have HN := hid hn
  rw [← hn] at hs40 x7
  have hn30 : n ≤ s.cap := by omega
  clear hx hq hok hk hsz hn
  have g1 : ¬ (30 : Int) < (s.step : Int) := by omega
  have g2 : ¬ (50 : Int) < (s.sent : Int) := by omega
  have g3 : ¬ (50 : Int) < (s.got : Int) := by omega
  have g4 : ¬ (50 : Int) < (s.prev : Int) := by omega
  have g7 : ¬ (s.cap : Int) < (n : Int) := by omega
  have z40 : (40 : Int) ≤ (x.size : Int) := by omega
  go_enter Try.func34, Try.ntmps34
  go_wp2
  go_loopg [8, 9, 10] 2000 (fun fu rv c av wr => ∃ j : Nat, rv = .int .i64 (runL s.kept j : Nat) ∧ c = .int .i64 j ∧ j ≤ n ∧ fu + j = 2000 ∧ Below w.heap.size w wr)
  case atStart => exact ⟨0, rfl, rfl, by omega, by omega, Below.refl _ _⟩
  case round =>
    obtain ⟨j, rfl, rfl, hj, hg, hb⟩ := hrel; have HB := hid hb; clear hb
    by_cases hlt : j < n
    · have hjl : (j : Int) < (n : Int) := by omega
      have hjk : j < s.kept.length := by rw [← HN.out]; exact hlt
      obtain ⟨y0, y1⟩ := side_ent HOK.out HKK.out j hjk; have hlo := HQ.out.keys.lo _ (getD_mem hjk); have hrs := runL_skip HQ.out j hjk
      have hrn : runL s.kept (j + 1) = if 0 < j ∧ (s.kept.getD (j - 1) default).step = (s.kept.getD j default).step then runL s.kept j + 1 else 1 := rfl
      have hrj : runL s.kept j ≤ 2000 := by
        rcases Nat.eq_zero_or_pos j with q | q
        · rw [q]; exact Nat.zero_le _
        · have := runL_skip HQ.out (j - 1) (by omega)
          rw [show j - 1 + 1 = j by omega] at this
          omega
      obtain ⟨o, ho⟩ : ∃ o, o = 40 + 10 * j := ⟨_, rfl⟩
      obtain ⟨oD, hoD⟩ : ∃ oD, oD = o + 1 := ⟨_, rfl⟩
      have bo : o < x.size := by omega
      have bD : oD < x.size := by omega
      have xo : (x[o]'bo).toNat = (s.kept.getD j default).step := by
        rw [str_at HX.out bo (v := UInt8.ofNat (s.kept.getD j default).step) (by rw [ho]; exact y0)]; exact ofNat_toNat _ (by omega)
      have xD : (x[oD]'bD).toNat = (s.kept.getD j default).count := by
        rw [str_at HX.out bD (v := UInt8.ofNat (s.kept.getD j default).count) (by rw [hoD, ho]; exact y1)]; exact ofNat_toNat _ (by omega)
      have w1 := wrap_i64 (10 * (j : Int)) (by omega) (by omega)
      have w2 := wrap_i64 (40 + 10 * (j : Int)) (by omega) (by omega)
      have q1 : (40 : Int) + 10 * (j : Int) = (o : Int) := by omega
      have q2 : (o : Int) + 1 = (oD : Int) := by omega
      have w3 := wrap_i64 ((o : Int) + 1) (by omega) (by omega)
      have b0 : (0 : Int) ≤ (o : Int) := by omega
      have b1 : (o : Int) < (x.size : Int) := by omega
      have b2 : (0 : Int) ≤ (oD : Int) := by omega
      have b3 : (oD : Int) < (x.size : Int) := by omega
      have k1 : decide ((s.step : Int) ≤ ((s.kept.getD j default).step : Int)) = false := by rw [decide_eq_false_iff_not]; omega
      have k1n : decide (s.step ≤ (s.kept.getD j default).step) = false := by rw [decide_eq_false_iff_not]; omega
      have k1' : ¬ (s.step : Int) ≤ ((s.kept.getD j default).step : Int) := by omega
      generalize runL s.kept j = rr at *
      by_cases hj0 : j = 0
      · rw [if_neg (by omega)] at hrn
        have HRN := hid hrn
        have d0 : decide ((0 : Int) < (j : Int)) = false := by rw [decide_eq_false_iff_not]; omega
        have d0n : decide (0 < j) = false := by rw [decide_eq_false_iff_not]; omega
        have d1 : decide ((s.skip : Int) < 1) = false := by rw [decide_eq_false_iff_not]; omega
        have d1' : ¬ (s.skip : Int) < 1 := by omega
        generalize s.kept.getD j default = en at *
        clear hrn hrs y0 y1 hlo ho hoD hj0
        go_upto_region 11 with fail
        go_quiet (fail)
        go_upto_region 13 with fail
        go_quiet (fail)
        go_upto_region 16 with fail
        go_quiet (fail)
        go_wp2
        go_roundg (gk - 1)
        case measure => omega
        case rel => exact ⟨j + 1, by rw [HRN.out]; rfl, by simp, by omega, by omega, ⟨HB.out.os, HB.out.tape, HB.out.output, HB.out.size, HB.out.block⟩⟩
      · have hjk1 : j - 1 < s.kept.length := by omega
        obtain ⟨y2, y3⟩ := side_ent HOK.out HKK.out (j - 1) hjk1; have hlo2 := HQ.out.keys.lo _ (getD_mem hjk1)
        have hri := (before_iff _ _).1 (rising_at HQ.out.keys.srt (i := j - 1) (j := j) (by omega) hjk)
        obtain ⟨oB, hoB⟩ : ∃ oB, oB = 40 + 10 * (j - 1) := ⟨_, rfl⟩
        obtain ⟨oC, hoC⟩ : ∃ oC, oC = oB + 1 := ⟨_, rfl⟩
        have bB : oB < x.size := by omega
        have bC : oC < x.size := by omega
        have xB : (x[oB]'bB).toNat = (s.kept.getD (j - 1) default).step := by
          rw [str_at HX.out bB (v := UInt8.ofNat (s.kept.getD (j - 1) default).step) (by rw [hoB]; exact y2)]; exact ofNat_toNat _ (by omega)
        have xC : (x[oC]'bC).toNat = (s.kept.getD (j - 1) default).count := by
          rw [str_at HX.out bC (v := UInt8.ofNat (s.kept.getD (j - 1) default).count) (by rw [hoC, hoB]; exact y3)]; exact ofNat_toNat _ (by omega)
        have q3 : (o : Int) - 10 = (oB : Int) := by omega
        have q4 : (o : Int) - 9 = (oC : Int) := by omega
        have w4 := wrap_i64 ((o : Int) - 10) (by omega) (by omega)
        have w5 := wrap_i64 ((o : Int) - 9) (by omega) (by omega)
        have b4 : (0 : Int) ≤ (oB : Int) := by omega
        have b5 : (oB : Int) < (x.size : Int) := by omega
        have b6 : (0 : Int) ≤ (oC : Int) := by omega
        have b7 : (oC : Int) < (x.size : Int) := by omega
        have d0 : decide ((0 : Int) < (j : Int)) = true := by rw [decide_eq_true_eq]; omega
        have d0n : decide (0 < j) = true := by rw [decide_eq_true_eq]; omega
        have d0m : 0 < j := by omega
        by_cases he : (s.kept.getD (j - 1) default).step = (s.kept.getD j default).step
        · rw [if_pos ⟨by omega, he⟩] at hrn
          have HRN := hid hrn
          have e0 : decide (((s.kept.getD j default).step : Int) < ((s.kept.getD j default).step : Int)) = false := by rw [decide_eq_false_iff_not]; omega
          have e2 : decide (((s.kept.getD j default).count : Int) ≤ ((s.kept.getD (j - 1) default).count : Int)) = false := by rw [decide_eq_false_iff_not]; omega
          have e2n : decide ((s.kept.getD j default).count ≤ (s.kept.getD (j - 1) default).count) = false := by rw [decide_eq_false_iff_not]; omega
          have e2' : ¬ ((s.kept.getD j default).count : Int) ≤ ((s.kept.getD (j - 1) default).count : Int) := by omega
          have d1 : decide ((s.skip : Int) < (rr : Int) + 1) = false := by rw [decide_eq_false_iff_not]; omega
          have d1n : decide (s.skip < rr + 1) = false := by rw [decide_eq_false_iff_not]; omega
          have d1' : ¬ (s.skip : Int) < (rr : Int) + 1 := by omega
          rw [he] at xB
          generalize s.kept.getD j default = en at *
          generalize s.kept.getD (j - 1) default = em at *
          clear hrn hrs y0 y1 y2 y3 hlo hlo2 hri ho hoD hoB hoC hj0 he
          go_upto_region 11 with fail
          go_quiet (fail)
          go_upto_region 13 with fail
          go_quiet (fail)
          go_upto_region 16 with fail
          go_quiet (fail)
          go_wp2
          go_roundg (gk - 1)
          case measure => omega
          case rel => exact ⟨j + 1, by rw [HRN.out]; simp, by simp, by omega, by omega, ⟨HB.out.os, HB.out.tape, HB.out.output, HB.out.size, HB.out.block⟩⟩
        · rw [if_neg (fun q => he q.2)] at hrn
          have HRN := hid hrn
          have e0 : decide (((s.kept.getD j default).step : Int) < ((s.kept.getD (j - 1) default).step : Int)) = false := by rw [decide_eq_false_iff_not]; omega
          have e0n : decide ((s.kept.getD j default).step < (s.kept.getD (j - 1) default).step) = false := by rw [decide_eq_false_iff_not]; omega
          have e1n : ((s.kept.getD (j - 1) default).step == (s.kept.getD j default).step) = false := by rw [beq_eq_false_iff_ne]; exact he
          have e1m : decide ((s.kept.getD (j - 1) default).step = (s.kept.getD j default).step) = false := by rw [decide_eq_false_iff_not]; exact he
          have e0' : ¬ ((s.kept.getD j default).step : Int) < ((s.kept.getD (j - 1) default).step : Int) := by omega
          have e1 : (((s.kept.getD (j - 1) default).step : Int) == ((s.kept.getD j default).step : Int)) = false := by rw [beq_eq_false_iff_ne]; omega
          have d1 : decide ((s.skip : Int) < 1) = false := by rw [decide_eq_false_iff_not]; omega
          have d1' : ¬ (s.skip : Int) < 1 := by omega
          generalize s.kept.getD j default = en at *
          generalize s.kept.getD (j - 1) default = em at *
          clear hrn hrs y0 y1 y2 y3 hlo hlo2 hri ho hoD hoB hoC hj0 he
          go_upto_region 11 with fail
          go_quiet (fail)
          go_upto_region 13 with fail
          go_quiet (fail)
          go_upto_region 16 with fail
          go_quiet (fail)
          go_wp2
          go_roundg (gk - 1)
          case measure => omega
          case rel => exact ⟨j + 1, by rw [HRN.out]; rfl, by simp, by omega, by omega, ⟨HB.out.os, HB.out.tape, HB.out.output, HB.out.size, HB.out.block⟩⟩
    · obtain rfl : j = n := by omega
      have hjl : ¬ (j : Int) < (j : Int) := by omega
      obtain ⟨oE, hoE⟩ : ∃ oE, oE = 40 + 10 * j := ⟨_, rfl⟩
      obtain ⟨m, hm⟩ : ∃ m, m = x.size - oE := ⟨_, rfl⟩
      have hex : x.extract oE x.size = str (List.replicate m 0) := by
        rw [← str_of (x.extract oE x.size), ext_drop, HX.out, hoE, HN.out, side_rest HOK.out, hm, hoE, HN.out, HSZ.out]
      have cn := fun w => noughtsZ_any m w (by omega)
      have q1 : (40 : Int) + 10 * (j : Int) = (oE : Int) := by omega
      have q2 : (x.size : Int) - 40 - 10 * (j : Int) = (m : Int) := by omega
      have w1 := wrap_i64 (10 * (j : Int)) (by omega) (by omega)
      have w2 := wrap_i64 (40 + 10 * (j : Int)) (by omega) (by omega)
      have w3 := wrap_i64 ((x.size : Int) - 40) (by omega) (by omega)
      have w4 := wrap_i64 ((x.size : Int) - 40 - 10 * (j : Int)) (by omega) (by omega)
      have b0 : (0 : Int) ≤ (oE : Int) := by omega
      have b1 : (oE : Int) ≤ (x.size : Int) := by omega
      generalize str (List.replicate m 0) = zz at *
      clear hoE hm
      go_upto_region 18 with fail
      go_quiet (first | (go_at_call 33; exact Calls.quiet_of_same (cn _)))
      go_wp2; go_ret; exact ⟨rfl, ⟨HB.out.os, HB.out.tape, HB.out.output, HB.out.size, HB.out.block⟩⟩
theorem sideL_length {s : StM} (h : StOk s) (hk : s.kept.length ≤ s.cap) : (sideL s).length = halfN s.cap * 32 := sideL_len h hk
theorem packZ0 (s : StM) (n : Nat) (h : StOk s) (hk : s.kept.length ≤ s.cap) : packL s 0 n = topL s.cap 0 ++ (sideL s ++ List.replicate (n - (32 + halfN s.cap * 32)) 0) := by
  rw [packL, if_neg (by omega), fillL, List.append_assoc, List.length_append, topL_length, sideL_length h hk]
theorem packZ1 (s : StM) (n : Nat) (h : StOk s) (hk : s.kept.length ≤ s.cap) : packL s 1 n = topL s.cap 1 ++ (List.replicate (halfN s.cap * 32) 0 ++ (sideL s ++ List.replicate (n - (32 + halfN s.cap * 32 + halfN s.cap * 32)) 0)) := by
  rw [packL, if_pos rfl, fillL, fillL, topL_length, show (1 + halfN s.cap) * 32 - 32 = halfN s.cap * 32 by omega, List.append_assoc, List.append_assoc, List.length_append, List.length_append, topL_length, List.length_replicate, sideL_length h hk]
theorem ext_of (d : ByteArray) (a b : List UInt8) (c : List UInt8) (i j : Nat) (hd : d.data.toList = a ++ (b ++ c)) (hi : a.length = i) (hj : i + b.length = j) : d.extract i j = str b := by
  rw [ext_sub, hd, List.drop_left' hi, show j - i = b.length by omega, List.take_left' rfl]
attribute [local go_sem] str_two_size
set_option maxHeartbeats 4000000 in
theorem shaped_core (d sd z26 zA zB : ByteArray) (cap skip hf h lv lh f g mA mB : Nat) (w : World) (hcap : cap ≤ 30) (hlv : lv ≤ 1) (q0 : (hf : Int) * 32 = (h : Int)) (q1 : (lv : Int) * (h : Int) = (lh : Int)) (q2 : (32 : Int) + (lh : Int) = (f : Int)) (q3 : (f : Int) + (h : Int) = (g : Int)) (q4 : (f : Int) - 32 = (mA : Int)) (uB : Nat) (q5 : (d.size : Int) - (f : Int) = (uB : Int)) (q6 : (uB : Int) - (h : Int) = (mB : Int)) (hs2 : 32 + 2 * h ≤ d.size) (hgd : g ≤ d.size) (hdz : d.size ≤ 2000) (hb5 : 5 < d.size) (x5 : (d[5]'hb5).toNat = lv) (hz26 : z26.size = 26)
    (ch : ∀ w, Calls Try.prog 32 #[.int .i64 cap] w fun e w' => e = .returned (.int .i64 hf) ∧ w' = w)
    (c26 : ∀ w, Calls Try.prog 33 #[.int .i64 26] w fun e w' => e = .returned (.string z26) ∧ w' = w)
    (cA : ∀ w, Calls Try.prog 33 #[.int .i64 mA] w fun e w' => e = .returned (.string zA) ∧ w' = w)
    (cB : ∀ w, Calls Try.prog 33 #[.int .i64 mB] w fun e w' => e = .returned (.string zB) ∧ w' = w)
    (cs : ∀ w, Calls Try.prog 34 #[.string sd, .int .i64 skip, .int .i64 cap] w fun e w' => e = .returned (.bool true) ∧ Below w.heap.size w w')
    (e1 : d.extract f g = sd) (e2 : d.extract 32 f = zA) (e3 : d.extract g d.size = zB) (e4 : d.extract 0 32 = (⟨#[80, 65, 87, 76]⟩ : ByteArray) ++ str [UInt8.ofNat cap, UInt8.ofNat lv] ++ z26) :
    Calls Try.prog 19 #[.string d, .int .i64 skip, .int .i64 cap] w fun e w' => e = .returned (.bool true) ∧ Below w.heap.size w w' := by
  have w0 := wrap_i64 (h : Int) (by omega) (by omega)
  have w1 := wrap_i64 (lh : Int) (by omega) (by omega)
  have w2 := wrap_i64 (f : Int) (by omega) (by omega)
  have w3 := wrap_i64 (g : Int) (by omega) (by omega)
  have w4 := wrap_i64 (mA : Int) (by omega) (by omega)
  have w5 := wrap_i64 (uB : Int) (by omega) (by omega)
  have w6 := wrap_i64 (mB : Int) (by omega) (by omega)
  have w7 := wrap_i64 (2 * (h : Int)) (by omega) (by omega)
  have w8 := wrap_i64 (32 + 2 * (h : Int)) (by omega) (by omega)
  have hwc := wrap_u8 cap (by omega)
  have hwl := wrap_u8 lv (by omega)
  have kc := conv2d
  have g1 : ¬ (d.size : Int) < 32 + 2 * (h : Int) := by omega
  have g2 : ¬ (1 : Int) < (lv : Int) := by omega
  have g2n : ¬ 1 < lv := by omega
  have b0 : (0 : Int) ≤ (f : Int) := by omega
  have b1 : (f : Int) ≤ (g : Int) := by omega
  have b2 : (g : Int) ≤ (d.size : Int) := by omega
  have b3 : (32 : Int) ≤ (f : Int) := by omega
  have b4 : (f : Int) ≤ (d.size : Int) := by omega
  have b5 : (0 : Int) ≤ (g : Int) := by omega
  have b6 : (32 : Int) ≤ (d.size : Int) := by omega
  have b7 : (5 : Int) < (d.size : Int) := by omega
  have HE := hid e4; clear e4
  go_enter Try.func19, Try.ntmps19
  go_upto_region 2 with (first | (go_at_call 32; (with_reducible refine (ch _).mono ?_); rintro e w1 ⟨rfl, rfl⟩))
  go_upto_region 6 with fail
  go_region_with (first | (go_at_call 33; (with_reducible refine (c26 _).mono ?_); rintro e w' ⟨rfl, hw⟩; rw [hw]; clear hw w'))
  all_goals (
    have hW2 : Below w1.heap.size w1 (w1.alloc (.cells #[.int .u8 (cap : Int), .int .u8 (lv : Int)] 5)).drew := ((Below.refl _ _).alloc (Nat.le_refl _) _).drew
    generalize (w1.alloc (.cells #[.int .u8 (cap : Int), .int .u8 (lv : Int)] 5)).drew = w2 at hW2 ⊢
    have HW2 := hid hW2; clear hW2 kc
    go_upto_region 8 with (first | (go_at_call 34; (with_reducible refine (cs _).mono ?_); rintro e w3 ⟨rfl, hb3⟩))
    have HW3 := hid (below_tr HW2.out hb3); clear hb3
    go_quiet (first | (go_at_call 33; exact Calls.quiet_of_same (cA _)))
    go_upto_region 9 with fail
    have hW4 : Below w1.heap.size w1 (w3.drewN nq) := ⟨HW3.out.os, HW3.out.tape, HW3.out.output, HW3.out.size, HW3.out.block⟩
    generalize w3.drewN nq = w4 at hW4 ⊢
    have HW4 := hid hW4; clear hW4 HW3
    go_quiet (first | (go_at_call 33; exact Calls.quiet_of_same (cB _)))
    go_wp2; go_ret
    exact ⟨by rw [HE.out]; show Ending.returned (.bool (_ == _)) = _; rw [beq_self_eq_true], ⟨HW4.out.os, HW4.out.tape, HW4.out.output, HW4.out.size, HW4.out.block⟩⟩)
set_option maxHeartbeats 4000000 in
theorem shaped_0 (d : ByteArray) (s : StM) (k : Nat) (w : World) (hd : d.data.toList = packL s 0 (k * 32)) (hk2 : k ≤ 40) (hq : LawQ s) (hok : StOk s) (hk : s.kept.length ≤ s.cap) (hn : 1 + 2 * halfN s.cap ≤ k) :
    Calls Try.prog 19 #[.string d, .int .i64 s.skip, .int .i64 s.cap] w fun e w' => e = .returned (.bool true) ∧ Below w.heap.size w w' := by
  have hcap := hq.cap
  have hlen := packL_length s 0 k hok hk (by omega) hn
  have hds : d.size = k * 32 := by rw [← len_list, hd, hlen]
  obtain ⟨_, p4, p5, _⟩ := pack_parts (s := s) 0 k hok hk hcap (by omega) hn
  have hsl := sideL_length hok hk; have htl := topL_length s.cap 0
  have hhb : halfN s.cap ≤ 20 := by unfold halfN; omega
  have ch := fun w => keepHalf_any s.cap w (by omega)
  obtain ⟨h, hh⟩ : ∃ h, h = halfN s.cap * 32 := ⟨_, rfl⟩
  have hb5 : 5 < d.size := by omega
  have x5 : (d[5]'hb5).toNat = 0 := by
    have e : (packL s 0 (k * 32))[5]? = some ((packL s 0 (k * 32)).getD 5 0) := by
      rw [List.getD_eq_getElem?_getD, List.getElem?_eq_getElem (by rw [hlen]; omega)]; rfl
    rw [str_at hd hb5 e]; exact p5
  have hside : d.extract 32 (32 + h) = str (sideL s) := by
    rw [packZ0 s _ hok hk] at hd
    exact ext_of d _ _ _ _ _ hd (by exact htl) (by rw [hsl, hh])
  have hahead : d.extract 32 32 = str (List.replicate (32 - 32) 0) := by
    rw [packZ0 s _ hok hk] at hd
    exact ext_of d _ [] _ _ _ hd htl rfl
  have hbehind : d.extract (32 + h) d.size = str (List.replicate (d.size - (32 + h)) 0) := by
    rw [← str_of (d.extract (32 + h) d.size), ext_drop, hds]
    rw [packZ0 s _ hok hk, ← List.append_assoc] at hd
    rw [hd, List.drop_left' (by rw [List.length_append, htl, hsl, hh])]
    rw [hh]
  have htop : d.extract 0 32 = str (topL s.cap 0) := by
    rw [packZ0 s _ hok hk] at hd
    exact ext_of d [] _ _ _ _ hd rfl (by rw [htl])
  have htp : (⟨#[80, 65, 87, 76]⟩ : ByteArray) ++ str [UInt8.ofNat s.cap, UInt8.ofNat 0] ++ str (List.replicate 26 0) = str (topL s.cap 0) := by
    rw [show (⟨#[80, 65, 87, 76]⟩ : ByteArray) = str [80, 65, 87, 76] from rfl, str_append, str_append]; rfl
  have cs := fun w => kside_any (str (sideL s)) s w (by rw [str_toList]) hq hok hk (by rw [str_size]; exact hsl)
  have c26 := fun w => noughtsZ_any 26 w (by omega)
  have cA := fun w => noughtsZ_any (32 - 32) w (by omega)
  have cB := fun w => noughtsZ_any (d.size - (32 + h)) w (by omega)
  refine shaped_core d (str (sideL s)) (str (List.replicate 26 0)) (str (List.replicate (32 - 32) 0)) (str (List.replicate (d.size - (32 + h)) 0)) s.cap s.skip (halfN s.cap) h 0 0 32 (32 + h) (32 - 32) (d.size - (32 + h)) w (by omega) (by omega) (by omega) (by omega) (by omega) (by omega) (by omega) (d.size - 32) (by omega) (by omega) (by omega) (by omega) (by omega) hb5 x5 (by rw [str_size]; rfl) ch c26 cA cB cs hside hahead hbehind ?_
  rw [htop, ← htp]
set_option maxHeartbeats 4000000 in
theorem shaped_1 (d : ByteArray) (s : StM) (k : Nat) (w : World) (hd : d.data.toList = packL s 1 (k * 32)) (hk2 : k ≤ 40) (hq : LawQ s) (hok : StOk s) (hk : s.kept.length ≤ s.cap) (hn : 1 + 2 * halfN s.cap ≤ k) :
    Calls Try.prog 19 #[.string d, .int .i64 s.skip, .int .i64 s.cap] w fun e w' => e = .returned (.bool true) ∧ Below w.heap.size w w' := by
  have hcap := hq.cap
  have hlen := packL_length s 1 k hok hk (by omega) hn
  have hds : d.size = k * 32 := by rw [← len_list, hd, hlen]
  obtain ⟨_, p4, p5, _⟩ := pack_parts (s := s) 1 k hok hk hcap (by omega) hn
  have hsl := sideL_length hok hk; have htl := topL_length s.cap 1
  have hhb : halfN s.cap ≤ 20 := by unfold halfN; omega
  have ch := fun w => keepHalf_any s.cap w (by omega)
  obtain ⟨h, hh⟩ : ∃ h, h = halfN s.cap * 32 := ⟨_, rfl⟩
  have hb5 : 5 < d.size := by omega
  have x5 : (d[5]'hb5).toNat = 1 := by
    have e : (packL s 1 (k * 32))[5]? = some ((packL s 1 (k * 32)).getD 5 0) := by
      rw [List.getD_eq_getElem?_getD, List.getElem?_eq_getElem (by rw [hlen]; omega)]; rfl
    rw [str_at hd hb5 e]; exact p5
  have hside : d.extract (32 + h) ((32 + h) + h) = str (sideL s) := by
    rw [packZ1 s _ hok hk, ← List.append_assoc] at hd
    exact ext_of d _ _ _ _ _ hd (by rw [List.length_append, htl, List.length_replicate, hh]) (by rw [hsl, hh])
  have hahead : d.extract 32 (32 + h) = str (List.replicate ((32 + h) - 32) 0) := by
    rw [packZ1 s _ hok hk] at hd
    rw [show 32 + h - 32 = halfN s.cap * 32 by omega]; exact ext_of d _ _ _ _ _ hd htl (by rw [List.length_replicate, hh])
  have hbehind : d.extract ((32 + h) + h) d.size = str (List.replicate (d.size - ((32 + h) + h)) 0) := by
    rw [← str_of (d.extract ((32 + h) + h) d.size), ext_drop, hds]
    rw [packZ1 s _ hok hk, ← List.append_assoc, ← List.append_assoc] at hd
    rw [hd, List.drop_left' (by rw [List.length_append, List.length_append, List.length_replicate, htl, hsl, hh])]
    rw [hh]
  have htop : d.extract 0 32 = str (topL s.cap 1) := by
    rw [packZ1 s _ hok hk] at hd
    exact ext_of d [] _ _ _ _ hd rfl (by rw [htl])
  have htp : (⟨#[80, 65, 87, 76]⟩ : ByteArray) ++ str [UInt8.ofNat s.cap, UInt8.ofNat 1] ++ str (List.replicate 26 0) = str (topL s.cap 1) := by
    rw [show (⟨#[80, 65, 87, 76]⟩ : ByteArray) = str [80, 65, 87, 76] from rfl, str_append, str_append]; rfl
  have cs := fun w => kside_any (str (sideL s)) s w (by rw [str_toList]) hq hok hk (by rw [str_size]; exact hsl)
  have c26 := fun w => noughtsZ_any 26 w (by omega)
  have cA := fun w => noughtsZ_any ((32 + h) - 32) w (by omega)
  have cB := fun w => noughtsZ_any (d.size - ((32 + h) + h)) w (by omega)
  refine shaped_core d (str (sideL s)) (str (List.replicate 26 0)) (str (List.replicate ((32 + h) - 32) 0)) (str (List.replicate (d.size - ((32 + h) + h)) 0)) s.cap s.skip (halfN s.cap) h 1 h (32 + h) ((32 + h) + h) ((32 + h) - 32) (d.size - ((32 + h) + h)) w (by omega) (by omega) (by omega) (by omega) (by omega) (by omega) (by omega) (d.size - (32 + h)) (by omega) (by omega) (by omega) (by omega) (by omega) hb5 x5 (by rw [str_size]; rfl) ch c26 cA cB cs hside hahead hbehind ?_
  rw [htop, ← htp]
theorem shaped_any (d : ByteArray) (s : StM) (k : Nat) (w : World) (hg : GoodD d.data.toList k) (hs : heldS d.data.toList = s) :
    Calls Try.prog 19 #[.string d, .int .i64 s.skip, .int .i64 s.cap] w fun e w' => e = .returned (.bool true) ∧ Below w.heap.size w w' := by
  have hp := hg.pack; have hok := hg.ok; have hk := hg.kept; have hn := hg.need; have hq := (good_lawQ hg).1; have hl := hg.live
  rw [hs] at hp hok hk hn hq
  rcases (show liveL d.data.toList = 0 ∨ liveL d.data.toList = 1 by omega) with q | q
  · rw [q] at hp; exact shaped_0 d s k w hp hg.k2 hq hok hk hn
  · rw [q] at hp; exact shaped_1 d s k w hp hg.k2 hq hok hk hn
end Go.Proofs.Ytabpkohcimiceab
namespace Go.Proofs.Ytabpkohcimiceab
set_option maxRecDepth 100000
set_option maxHeartbeats 1000000
open Go.RowKit
set_option linter.unusedVariables false
set_option linter.unusedSimpArgs false
theorem write_two {r : List UInt8} {P Q base : Nat} (w : World) (h : TwoX r w P Q base) : Calls Try.prog 17 #[.pointer (some ⟨P, 0, none⟩), .agg #[.int .i64 0, .int .i64 0, .int .i64 0, .int .i64 0, .string ⟨#[]⟩, .bool false, .int .i64 0, .int .i64 0, .string ⟨#[]⟩, .string ⟨#[]⟩]] w fun e w' => e = .returned (.bool true) ∧ TwoX r w' P Q base ∧ Only (MaySet P Q base) w w' := by
  obtain ⟨a, s, t, pes, pet, vks, vkt, vls, vlt, Ls, Lt, ds, dt, ks, kt, h⟩ := h
  exact pwrite_any h 0 0 0 0 0 0 ⟨#[]⟩ ⟨#[]⟩ ⟨#[]⟩ false (Nat.zero_le _) (by omega) (by omega) (Nat.zero_le _) (Nat.zero_le _)
theorem take_two {r : List UInt8} {P Q base : Nat} (w : World) (h : TwoX r w P Q base) (u4 : Int) (h4 : (-9223372036854775808 ≤ u4 ∧ u4 ≤ 9223372036854775807)) : Calls Try.prog 18 #[.pointer (some ⟨P, 0, none⟩), .pointer (some ⟨Q, 0, none⟩), .agg #[.int .i64 0, .int .i64 1, .int .i64 0, .int .i64 u4, .string ⟨#[]⟩, .bool false, .int .i64 0, .int .i64 0, .string ⟨#[]⟩, .string ⟨#[]⟩]] w fun e w' => e = .returned (.bool true) ∧ TwoX r w' P Q base ∧ Only (MaySet P Q base) w w' := by
  obtain ⟨a, s, t, pes, pet, vks, vkt, vls, vlt, Ls, Lt, ds, dt, ks, kt, h⟩ := h
  exact ptake_any h 0 1 0 u4 0 0 ⟨#[]⟩ ⟨#[]⟩ ⟨#[]⟩ false (by omega) h4 (by omega) (by omega) (Nat.zero_le _) (Nat.zero_le _)
theorem undrew {w w' : World} (h : Below w.drew.heap.size w.drew w') : Below w.heap.size w w' := ⟨h.os, h.tape, h.output, h.size, h.block⟩
theorem cell_eq {w w1 : World} {b : Nat} (h : w1.heap[b]? = w.heap[b]?) (j : Nat) : w1.cell? ⟨b, j, none⟩ = w.cell? ⟨b, j, none⟩ := by
  unfold World.cell?; rw [show w1.heap[(⟨b, j, none⟩ : Addr).block]? = w.heap[(⟨b, j, none⟩ : Addr).block]? from h]
def ShapeAt (w : World) (P : Nat) (d : ByteArray) (sk cp : Int) : Prop := w.cell? ⟨P, 0, none⟩ = some (.string d) ∧ w.cell? ⟨P, 6, none⟩ = some (.int .i64 sk) ∧ w.cell? ⟨P, 7, none⟩ = some (.int .i64 cp) ∧ P < w.heap.size ∧ ∀ w, Calls Try.prog 19 #[.string d, .int .i64 sk, .int .i64 cp] w fun e w' => e = .returned (.bool true) ∧ Below w.heap.size w w'
theorem shape_two {r : List UInt8} {w : World} {P Q base : Nat} (h : TwoX r w P Q base) : ∃ d sk cp, ShapeAt w P d sk cp := by
  obtain ⟨a, s, t, pes, pet, vks, vkt, vls, vlt, Ls, Lt, ds, dt, ks, kt, h⟩ := h
  have hs : heldS (str ds).data.toList = s := by rw [str_toList]; exact h.p.held
  have hg : GoodD (str ds).data.toList ks := by rw [str_toList]; exact h.p.good
  have hb := h.p.blk
  exact ⟨str ds, s.skip, s.cap, cell_of_row w _ 0 _ _ _ hb, cell_of_row w _ 6 _ _ _ hb, cell_of_row w _ 7 _ _ _ hb, blk_lt hb, fun w => shaped_any (str ds) s ks w hg hs⟩
theorem bounds_walk (u0 u1 u2 u3 u4 u5 u6 : Int) (u7 : ByteArray) (v : Value) (l : List StepM) (h0 : (-9223372036854775808 ≤ u0 ∧ u0 ≤ 9223372036854775807)) (h1 : (-9223372036854775808 ≤ u1 ∧ u1 ≤ 9223372036854775807)) (h2 : (-9223372036854775808 ≤ u2 ∧ u2 ≤ 9223372036854775807)) (h3 : (-9223372036854775808 ≤ u3 ∧ u3 ≤ 9223372036854775807)) (h4 : (-9223372036854775808 ≤ u4 ∧ u4 ≤ 9223372036854775807)) (h5 : (-9223372036854775808 ≤ u5 ∧ u5 ≤ 9223372036854775807)) (h6 : (-9223372036854775808 ≤ u6 ∧ u6 ≤ 9223372036854775807)) (h7 : u7.size ≤ maxLen) (w : World) (hv : StepsAt w v l) (hll : l.length ≤ 1000000000000000) (hok : ∀ o ∈ l, StepOk o) :
    Calls Try.prog 6 #[.agg #[.int .i64 u0, .int .i64 u1, .int .i64 u2, .int .i64 u3, .int .i64 u4, .int .i64 u5, .int .i64 u6, .string u7], v] w fun e w' => e = .returned (.bool true) ∧ Below w.heap.size w w' := by
  obtain ⟨av, ac, hvf⟩ := hv.form; subst hvf
  have c1 := fun w => begun_two u0 u1 u2 u3 u4 u5 u6 u7 w h0 h1 h2 h3 h4 h5 h6 h7
  have HVB : Hid (l ≠ [] → ∀ q, (Value.slice av l.length ac).ownBlock = some q → q < w.heap.size) := fun hne q hq => hv.lt hne hq
  have HOK := hid hok
  generalize sizedL u7.data.toList 8 = r at *
  clear hok
  go_enter Try.func6, Try.ntmps6
  go_upto_region 1 with fail
  obtain ⟨ob, eob⟩ : ∃ ob, ob = Obj.cells #[.int .i64 u0, .int .i64 u1, .int .i64 u2, .int .i64 u3, .int .i64 u4, .int .i64 u5, .int .i64 u6, .string u7] 23 := ⟨_, rfl⟩
  rw [← eob]; have hS := heap_alloc_new w ob; have hW : Below w.heap.size w (w.alloc ob) := (Below.refl _ _).alloc (Nat.le_refl _) _
  have hsz : w.heap.size < (w.alloc ob).heap.size := by simp
  generalize (w.alloc ob) = wa at hS hW hsz ⊢
  subst eob; have HW := hid hW; have HV := hid (hv.next hW); have HS := hid hS; have k0 : wa.cell? ⟨w.heap.size, 0, none⟩ = some (.int .i64 u0) := cell_of_row wa _ 0 _ _ _ hS; have k1 : wa.cell? ⟨w.heap.size, 1, none⟩ = some (.int .i64 u1) := cell_of_row wa _ 1 _ _ _ hS; have k2 : wa.cell? ⟨w.heap.size, 2, none⟩ = some (.int .i64 u2) := cell_of_row wa _ 2 _ _ _ hS; have k3 : wa.cell? ⟨w.heap.size, 3, none⟩ = some (.int .i64 u3) := cell_of_row wa _ 3 _ _ _ hS; have k4 : wa.cell? ⟨w.heap.size, 4, none⟩ = some (.int .i64 u4) := cell_of_row wa _ 4 _ _ _ hS; have k5 : wa.cell? ⟨w.heap.size, 5, none⟩ = some (.int .i64 u5) := cell_of_row wa _ 5 _ _ _ hS; have k6 : wa.cell? ⟨w.heap.size, 6, none⟩ = some (.int .i64 u6) := cell_of_row wa _ 6 _ _ _ hS; have k7 : wa.cell? ⟨w.heap.size, 7, none⟩ = some (.string u7) := cell_of_row wa _ 7 _ _ _ hS; clear hS hW hv
  go_upto_region 2 with (first | (go_at_call 7; (with_reducible refine (c1 _).mono ?_); rintro e w1 ⟨⟨P, Q, rfl, hPw, hPQ, hQw, hT⟩, hb1⟩))
  have HW1 := hid (below_tr HW.out hb1); have HV1 := hid (HV.out.next hb1)
  have hwP : w.heap.size < P := by omega
  have HT := hid hT; have HS1 := hid ((hb1.block w.heap.size hsz).trans HS.out)
  have hws1 : w.heap.size < w1.heap.size := by omega
  have hMS : ∀ k, MaySet P Q (Q + 1) k → w.heap.size < k := by rintro k (q | q | q) <;> omega
  clear k0 k1 k2 k3 k4 k5 k6 k7 hb1 c1 HW HV HS hT hPw hsz
  go_upto_region 5 with (first | (go_at_call 17; (with_reducible refine (write_two _ HT.out).mono ?_); rintro e w2 ⟨rfl, hT2, hn2⟩))
  have HS2 := hid ((hn2.block w.heap.size hws1 (fun q => by have := hMS _ q; omega)).trans HS1.out)
  have hws2 : w.heap.size < w2.heap.size := by have := hn2.size; omega
  have k4 : w2.cell? ⟨w.heap.size, 4, none⟩ = some (.int .i64 u4) := cell_of_row w2 _ 4 _ _ _ HS2.out; have HMS := hid hMS
  have HV2 := hid (HV1.out.only hn2 (fun hne q hq h => by have := HVB.out hne q hq; have := HMS.out q h; omega))
  have HW2 : Hid (Below w.heap.size w w2) := HW1.out.trans (hn2.below HW1.out.size (fun k hk => Nat.le_of_lt (HMS.out k hk)))
  have HT2 := hid hT2; clear HS1 HS2 HT HV1 HW1 hT2 hn2 hws1 hMS
  go_upto_region 6 with (first | (go_at_call 18; (with_reducible refine (take_two _ HT2.out.symm u4 h4).mono ?_); rintro e w3 ⟨rfl, hT3, hn3⟩))
  have hn3' : Only (MaySet P Q (Q + 1)) w2 w3 := hn3.mono (fun k _ q => by rcases q with q | q | q; exact .inr (.inl q); exact .inl q; exact .inr (.inr q))
  have HV3 := hid (HV2.out.only hn3' (fun hne q hq h => by have := HVB.out hne q hq; have := HMS.out q h; omega))
  have HW3 : Hid (Below w.heap.size w w3) := HW2.out.trans (hn3'.below HW2.out.size (fun k hk => Nat.le_of_lt (HMS.out k hk)))
  have HT3 := hid hT3.symm; clear HT2 HV2 HW2 hT3 hn3 hn3' k4 hws2; go_wp2
  go_loopg [10, 11, 12, 13] (l.length + 2) (fun fu c x9 x10 x11 wx => ∃ j : Nat, c = .int .i64 j ∧ j ≤ l.length + 1 ∧ fu + j = l.length + 2 ∧ TwoX r wx P Q (Q + 1) ∧ StepsAt wx (.slice av l.length ac) l ∧ Below w.heap.size w wx)
  case atStart => exact ⟨0, rfl, by omega, by omega, HT3.out, HV3.out, HW3.out⟩
  case round =>
    clear HT3 HV3 HW3; obtain ⟨j, rfl, hj, hfu, hT, hV, hbx⟩ := hrel; have hsx := hbx.size; have HT := hid hT; have HV := hid hV; have HB := hid hbx; obtain ⟨pd, psk, pcp, p0, p6, p7, plt, pc⟩ := shape_two hT; obtain ⟨qd, qsk, qcp, q0, q6, q7, qlt, qc⟩ := shape_two hT.symm; clear hT hbx
    by_cases hle : j ≤ l.length
    · have hleI : (j : Int) ≤ (l.length : Int) := by omega
      have hleD : decide ((j : Int) ≤ (l.length : Int)) = true := by rw [decide_eq_true_eq]; omega
      go_upto_region 11 with fail
      go_region_held3 (fun w' => w'.cell? ⟨P, 0, none⟩ = some (.string pd) ∧ w'.cell? ⟨P, 6, none⟩ = some (.int .i64 psk) ∧ w'.cell? ⟨P, 7, none⟩ = some (.int .i64 pcp)) (first | (simp [p0, p6, p7]; done) | (simp [g0, g6, g7]; done)) (first | (go_at_call 19; go_must (with_reducible refine (pc _).mono ?_); rintro e w4 ⟨rfl, hb4⟩; have g0 : w4.cell? ⟨P, 0, none⟩ = some (.string pd) := (cell_eq (hb4.block P plt) _).trans p0; have g6 : w4.cell? ⟨P, 6, none⟩ = some (.int .i64 psk) := (cell_eq (hb4.block P plt) _).trans p6; have g7 : w4.cell? ⟨P, 7, none⟩ = some (.int .i64 pcp) := (cell_eq (hb4.block P plt) _).trans p7))
      have u0' : w4.cell? ⟨Q, 0, none⟩ = some (.string qd) := (cell_eq (hb4.block Q qlt) _).trans q0; have u6' : w4.cell? ⟨Q, 6, none⟩ = some (.int .i64 qsk) := (cell_eq (hb4.block Q qlt) _).trans q6; have u7' : w4.cell? ⟨Q, 7, none⟩ = some (.int .i64 qcp) := (cell_eq (hb4.block Q qlt) _).trans q7; have qlt4 : Q < w4.heap.size := Nat.lt_of_lt_of_le qlt hb4.size; clear p0 p6 p7 q0 q6 q7 g0 g6 g7
      go_upto_region 12 with fail
      go_region_held3 (fun w' => w'.cell? ⟨Q, 0, none⟩ = some (.string qd) ∧ w'.cell? ⟨Q, 6, none⟩ = some (.int .i64 qsk) ∧ w'.cell? ⟨Q, 7, none⟩ = some (.int .i64 qcp)) (first | (simp [u0', u6', u7']; done) | (simp [g0, g6, g7]; done)) (first | (go_at_call 19; go_must (with_reducible refine (qc _).mono ?_); rintro e w5 ⟨rfl, hb5⟩; have g0 : w5.cell? ⟨Q, 0, none⟩ = some (.string qd) := (cell_eq (hb5.block Q qlt4) _).trans u0'; have g6 : w5.cell? ⟨Q, 6, none⟩ = some (.int .i64 qsk) := (cell_eq (hb5.block Q qlt4) _).trans u6'; have g7 : w5.cell? ⟨Q, 7, none⟩ = some (.int .i64 qcp) := (cell_eq (hb5.block Q qlt4) _).trans u7'))
      clear g0 g6 g7
      go_upto_region 13 with fail
      have hb45 := below_tr (undrew hb4) (undrew hb5); have HT5 := hid (HT.out.next hb45); have hV5 := HV.out.next hb45; have HV5 := hid hV5; have HB5 : Hid (Below w.heap.size w w5) := HB.out.trans (hb45.mono hsx); have hsx5 := HB5.out.size; clear hb4 hb5 hb45 HT HV HB hV u0' u6' u7' pc qc plt qlt qlt4
      by_cases hlt : j < l.length
      · obtain ⟨ob, off, ocap, hov, hobl, hoc⟩ : ∃ ob off ocap, Value.slice av l.length ac = .slice (some ⟨ob, off, none⟩) l.length ocap ∧ ob < w5.heap.size ∧ ∀ q, q < 10 → w5.cell? ⟨ob, off + j * 10 + q, none⟩ = (stepC (l.getD j stepZ))[q]? := by
          rcases hV5 with ⟨q, _⟩ | ⟨ob, off, ocap, q1, q2, q3⟩
          · rw [q] at hlt; simp at hlt
          · exact ⟨ob, off, ocap, q1, q2, q3 j hlt⟩
        injection hov with o1 o2 o3
        subst o1 o3
        have hne : l ≠ [] := fun e => by rw [e] at hlt; simp at hlt
        have hoo := HOK.out (l.getD j stepZ) (by rw [List.getD_eq_getElem?_getD, List.getElem?_eq_getElem hlt]; exact List.getElem_mem hlt)
        generalize l.getD j stepZ = oo at *
        obtain ⟨kd, who, pn, dr, tx, cut, f0, f1, k1, k2⟩ := oo; have hobG : ob < w.heap.size := HVB.out hne ob rfl
        have z0 : w5.cell? ⟨ob, off + j * 10 + 0, none⟩ = some (.int .i64 kd) := hoc 0 (by omega)
        have z1 : w5.cell? ⟨ob, off + j * 10 + 1, none⟩ = some (.int .i64 who) := hoc 1 (by omega)
        have z2 : w5.cell? ⟨ob, off + j * 10 + 2, none⟩ = some (.int .i64 pn) := hoc 2 (by omega)
        have z3 : w5.cell? ⟨ob, off + j * 10 + 3, none⟩ = some (.int .i64 dr) := hoc 3 (by omega)
        have z4 : w5.cell? ⟨ob, off + j * 10 + 4, none⟩ = some (.string tx) := hoc 4 (by omega)
        have z5 : w5.cell? ⟨ob, off + j * 10 + 5, none⟩ = some (.bool cut) := hoc 5 (by omega)
        have z6 : w5.cell? ⟨ob, off + j * 10 + 6, none⟩ = some (.int .i64 f0) := hoc 6 (by omega)
        have z7 : w5.cell? ⟨ob, off + j * 10 + 7, none⟩ = some (.int .i64 f1) := hoc 7 (by omega)
        have z8 : w5.cell? ⟨ob, off + j * 10 + 8, none⟩ = some (.string k1) := hoc 8 (by omega)
        have z9 : w5.cell? ⟨ob, off + j * 10 + 9, none⟩ = some (.string k2) := hoc 9 (by omega)
        have z00 : w5.cell? ⟨ob, off + j * 10, none⟩ = some (.int .i64 kd) := hoc 0 (by omega)
        have cs := keepStep_any r P Q (Q + 1) kd who pn dr f0 f1 tx k1 k2 cut w5 HT5.out hoo.pn hoo.dr hoo.f0 hoo.f1 hoo.tx hoo.k1 hoo.k2
        have hjl : (j : Int) < (l.length : Int) := by omega
        have hj0 : (0 : Int) ≤ (j : Int) := by omega
        clear hoc hV5 hoo
        go_wp2_with (first | (go_at_call 20; (with_reducible refine cs.mono ?_); rintro e w6 ⟨rfl, ht6, hn6⟩; have HT6 := hid ht6; have HN6 := hid hn6; clear ht6 hn6))
        go_roundg (gk - 1)
        case measure => omega
        case rel =>
          have hS : ∀ k, MaySet P Q (Q + 1) k → w.heap.size ≤ k := fun k hk => Nat.le_of_lt (HMS.out k hk)
          refine ⟨j + 1, by simp, by omega, by omega, HT6.out, HV5.out.only HN6.out (fun hne q hq h => ?_), HB5.out.trans (HN6.out.below hsx5 hS)⟩
          have := HVB.out hne q hq
          have := hS q h
          omega
      · have hjl : ¬ (j : Int) < (l.length : Int) := by omega
        clear hV5; go_wp2
        go_roundg (gk - 1)
        case measure => omega
        case rel => exact ⟨j + 1, by simp, by omega, by omega, HT5.out, HV5.out, HB5.out⟩
    · have hleI : ¬ (j : Int) ≤ (l.length : Int) := by omega
      have hleD : decide ((j : Int) ≤ (l.length : Int)) = false := by rw [decide_eq_false_iff_not]; omega
      clear hV; go_wp2; go_ret; exact ⟨rfl, HB.out⟩
end Go.Proofs.Ytabpkohcimiceab
