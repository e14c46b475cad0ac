import Derived.Test.YtabpkohcimiceabGreatRecvP
import Derived.Test.YtabpkohcimiceabGreatRefZ
import Derived.Test.YtabpkohcimiceabGreatSeals
namespace Go.Proofs.YtabpkohcimiceabGreat
set_option maxRecDepth 100000
set_option maxHeartbeats 1000000
open Go.RowKit
set_option linter.unusedVariables false
set_option linter.unusedSimpArgs false
theorem refParse_no (t : ByteArray) (w : World) (ht : t.size ≤ maxLen) (h : ¬ (15 ≤ t.size ∧ t.size ≤ 55)) :
    Calls Tryz.prog 114 #[.string t] w fun e w' => e = .returned (.tuple #[.agg #[.int .i64 0, .int .i64 0, .int .i64 0, .int .i64 0, .string ⟨#[]⟩, .string ⟨#[]⟩], .bool false]) ∧ Below w.heap.size w w' := by
  unfold maxLen at ht
  by_cases h1 : (t.size : Int) < 15
  · clear h
    go_enter Tryz.func114, Tryz.ntmps114
    go_wp2
    (try simp only [Exit.inBlock, Exit.then])
    refine bodyPost_ret (v := .tuple #[.agg #[.int .i64 0, .int .i64 0, .int .i64 0, .int .i64 0, .string ⟨#[]⟩, .string ⟨#[]⟩], .bool false]) ?_ ?_ ?_
    · rw [results_cell_tmp (fn := Tryz.f114) rfl]; simp [go_sem]
    · rfl
    · refine ⟨rfl, ?_⟩
      repeat (first | exact Below.refl _ _ | (with_reducible refine Below.setCell ?_ (by exact Nat.le_refl _) _) | (refine Below.alloc ?_ (by first | exact Nat.le_refl _ | (simp; done) | (simp; omega)) _))
  · have h2 : (55 : Int) < (t.size : Int) := by omega
    clear h
    go_enter Tryz.func114, Tryz.ntmps114
    go_wp2
    (try simp only [Exit.inBlock, Exit.then])
    refine bodyPost_ret (v := .tuple #[.agg #[.int .i64 0, .int .i64 0, .int .i64 0, .int .i64 0, .string ⟨#[]⟩, .string ⟨#[]⟩], .bool false]) ?_ ?_ ?_
    · rw [results_cell_tmp (fn := Tryz.f114) rfl]; simp [go_sem]
    · rfl
    · refine ⟨rfl, ?_⟩
      repeat (first | exact Below.refl _ _ | (with_reducible refine Below.setCell ?_ (by exact Nat.le_refl _) _) | (refine Below.alloc ?_ (by first | exact Nat.le_refl _ | (simp; done) | (simp; omega)) _))
def rightR (l : LetM) : Prop := 1 ≤ l.step ∧ l.step ≤ 29 ∧ l.count ≤ 49 ∧ l.prev ≤ 50 ∧ Pub (l.pub : Int)
instance (l : LetM) : Decidable (rightR l) := inferInstanceAs (Decidable (_ ∧ _))
set_option maxHeartbeats 8000000 in
theorem refParse_yes (t : ByteArray) (w : World) (h1 : 15 ≤ t.size) (h2 : t.size ≤ 55) :
    Calls Tryz.prog 114 #[.string t] w fun e w' => e = .returned (.tuple #[.agg #[.int .i64 ((letOf t.data.toList).step : Int), .int .i64 ((letOf t.data.toList).count : Int), .int .i64 ((letOf t.data.toList).prev : Int), .int .i64 ((letOf t.data.toList).pub : Int), .string (str (letOf t.data.toList).head), .string (str (letOf t.data.toList).body)], .bool (decide (rightR (letOf t.data.toList)))]) ∧ Below w.heap.size w w' := by
  have i1 : ¬ (t.size : Int) < 15 := by omega
  have i2 : ¬ (55 : Int) < (t.size : Int) := by omega
  have n0 : 0 < t.size := by omega
  have n1 : 1 < t.size := by omega
  have n2 : 2 < t.size := by omega
  have j0 : (0 : Int) < (t.size : Int) := by omega
  have j1 : (1 : Int) < (t.size : Int) := by omega
  have j2 : (2 : Int) < (t.size : Int) := by omega
  have j7 : (7 : Int) ≤ (t.size : Int) := by omega
  have m7 : 7 ≤ t.size := by omega
  have b0 := t[0].toNat_lt; have b1 := t[1].toNat_lt; have b2 := t[2].toNat_lt
  have g0 : IntKind.i64.wrap (t[0].toNat : Int) = (t[0].toNat : Int) := wrap_i64 _ (by omega) (by omega)
  have g1 : IntKind.i64.wrap (t[1].toNat : Int) = (t[1].toNat : Int) := wrap_i64 _ (by omega) (by omega)
  have g2 : IntKind.i64.wrap (t[2].toNat : Int) = (t[2].toNat : Int) := wrap_i64 _ (by omega) (by omega)
  have e0 : (letOf t.data.toList).step = t[0].toNat := by
    show (t.data.toList.getD 0 0).toNat = _
    rw [getD_at t 0 n0]
  have e1 : (letOf t.data.toList).count = t[1].toNat := by
    show (t.data.toList.getD 1 0).toNat = _
    rw [getD_at t 1 n1]
  have e2 : (letOf t.data.toList).prev = t[2].toNat := by
    show (t.data.toList.getD 2 0).toNat = _
    rw [getD_at t 2 n2]
  have e4 : str (letOf t.data.toList).head = t.extract 0 7 := by
    rw [ext_sub]; rfl
  have htl := len_list t
  have e5 : str (letOf t.data.toList).body = t.extract 7 t.size := by
    rw [ext_sub, List.take_of_length_le (by rw [List.length_drop, htl]; omega)]; rfl
  have cv : ∀ w, Calls Tryz.prog 140 #[.string (t.extract 3 7)] w fun e w' => e = .returned (.int .i64 ((letOf t.data.toList).pub : Int)) ∧ w' = w := fun w => by
    have := value_any (t.extract 3 7) w (by rw [ByteArray.size_extract]; unfold maxLen; omega)
    rw [ext_sub, str_toList, wn_take _ 4 (Nat.le_refl _)] at this
    rw [ext_sub]; exact this
  generalize letOf t.data.toList = l at *
  clear htl; have HE : Hid (l.step = t[0].toNat ∧ l.count = t[1].toNat ∧ l.prev = t[2].toNat ∧ str l.head = t.extract 0 7 ∧ str l.body = t.extract 7 t.size) := ⟨e0, e1, e2, e4, e5⟩; clear e0 e1 e2 e4 e5
  go_enter Tryz.func114, Tryz.ntmps114
  go_upto_region 4 with fail
  clear i1 i2 h2
  go_cut [] (fun wx => wx.heap[w.heap.size + 1]? = some (.cells #[.int .i64 l.step, .int .i64 l.count, .int .i64 l.prev, .int .i64 l.pub, .string (str l.head), .string (str l.body)] 145) ∧ wx.heap[w.heap.size]? = some (.cells #[.int .i64 0, .int .i64 0, .int .i64 0, .int .i64 0, .string ⟨#[]⟩, .string ⟨#[]⟩] 145) ∧ Below w.heap.size w wx)
  case first =>
    go_region_held3 (fun w' => True) (trivial) (first | (go_at_call 140; go_must (with_reducible refine (cv _).mono ?_); rintro e w' ⟨rfl, hw⟩; rw [hw]; clear hw w'))
    all_goals (go_wp2_with fail)
    all_goals go_meet
    all_goals (
      obtain ⟨e0, e1, e2, e4, e5⟩ := HE.out; rw [e0, e1, e2, e4, e5]
      (try simp only [g0, g1, g2])
      refine ⟨?_, ?_, ?_⟩
      · have := heap_alloc_new (w.alloc (.cells #[.int .i64 0, .int .i64 0, .int .i64 0, .int .i64 0, .string ⟨#[]⟩, .string ⟨#[]⟩] 145)) (.cells #[.int .i64 (t[0].toNat : Int), .int .i64 (t[1].toNat : Int), .int .i64 (t[2].toNat : Int), .int .i64 l.pub, .string (t.extract 0 7), .string (t.extract 7 t.size)] 145)
        have e : (w.alloc (.cells #[.int .i64 0, .int .i64 0, .int .i64 0, .int .i64 0, .string ⟨#[]⟩, .string ⟨#[]⟩] 145)).heap.size = w.heap.size + 1 := by simp
        rw [e] at this
        exact this
      · exact (Below.heap_alloc _ _ _ (by simp)).trans (heap_alloc_new w _)
      · repeat (first | exact Below.refl _ _ | apply Below.drew | (refine Below.alloc ?_ (by first | exact Nat.le_refl _ | (simp; done) | (simp; omega)) _)))
  case rest =>
    obtain ⟨hX, hR, hW⟩ := hcut; have HW := hid hW; obtain ⟨k0, k1, k2, k3, k4, k5⟩ := cells6 hX; obtain ⟨a0, a1, a2, a3, a4, a5⟩ := cells6 hR
    have fA : ∀ j, wc.frozen? ⟨w.heap.size, j, none⟩ = false := fun j => frozen_of_row wc _ j _ _ hR
    clear hX hR hW HE cv b0 b1 b2 n0 n1 n2 j0 j1 j2 j7 m7 h1 g0 g1 g2
    by_cases hp : Pub (l.pub : Int)
    · by_cases q0 : 1 ≤ l.step
      · by_cases q1 : l.step ≤ 29
        · by_cases q2 : l.count ≤ 49
          · by_cases q3 : l.prev ≤ 50
            · have _z := q3; have hrl : decide (rightR l) = true := decide_eq_true ⟨q0, q1, q2, q3, hp⟩; have HRL : Hid (decide (rightR l) = true) := hrl
              have cp : ∀ w, Calls Tryz.prog 88 #[.int .i64 l.pub] w fun e w' => e = .returned (.bool true) ∧ w' = w := fun w => by
                have := refIsPublic_any (l.pub : Int) w
                rw [decide_eq_true hp] at this
                exact this
              have s0 : (0 : Int) < (l.step : Int) := by omega
              have s0d : decide ((0 : Int) < (l.step : Int)) = true := decide_eq_true s0
              have s0n : 0 < l.step := by omega
              have s0nd : decide (0 < l.step) = true := decide_eq_true s0n
              have s30 : (l.step : Int) < 30 := by omega
              have s30d : decide ((l.step : Int) < 30) = true := decide_eq_true s30
              have s30n : l.step < 30 := by omega
              have s30nd : decide (l.step < 30) = true := decide_eq_true s30n
              have c50 : (l.count : Int) < 50 := by omega
              have c50d : decide ((l.count : Int) < 50) = true := decide_eq_true c50
              have c50n : l.count < 50 := by omega
              have c50nd : decide (l.count < 50) = true := decide_eq_true c50n
              have p50 : (l.prev : Int) ≤ 50 := by omega
              have p50d : decide ((l.prev : Int) ≤ 50) = true := decide_eq_true p50
              have p50n : l.prev ≤ 50 := by omega
              have p50nd : decide (l.prev ≤ 50) = true := decide_eq_true p50n; clear hrl hp q0 q1 q2 q3
              go_upto_region 6 with (first | (go_at_call 88; go_must (with_reducible refine (cp _).mono ?_); rintro e w' ⟨rfl, hw⟩; rw [hw]; clear hw w'))
              go_region
              all_goals go_wp2
              all_goals (try simp only [Exit.inBlock, Exit.then])
              all_goals (refine bodyPost_ret (v := .tuple #[.agg #[.int .i64 l.step, .int .i64 l.count, .int .i64 l.prev, .int .i64 l.pub, .string (str l.head), .string (str l.body)], .bool true]) ?_ ?_ ?_)
              all_goals first
                | rfl
                | (rw [results_cell_tmp (fn := Tryz.f114) rfl]; simp [go_sem, a0, a1, a2, a3, a4, a5])
                | (refine ⟨by rw [HRL.out], ?_⟩
                   repeat (first | (with_reducible refine Below.setCell ?_ (by exact Nat.le_refl _) _) | (with_reducible refine Below.drew ?_))
                   exact HW.out)
            · have _z := q3
              have hrl : decide (rightR l) = false := decide_eq_false fun z => q3 z.2.2.2.1
              have HRL : Hid (decide (rightR l) = false) := hrl
              have cp : ∀ w, Calls Tryz.prog 88 #[.int .i64 l.pub] w fun e w' => e = .returned (.bool true) ∧ w' = w := fun w => by
                have := refIsPublic_any (l.pub : Int) w
                rw [decide_eq_true hp] at this
                exact this
              have s0 : (0 : Int) < (l.step : Int) := by omega
              have s0d : decide ((0 : Int) < (l.step : Int)) = true := decide_eq_true s0
              have s0n : 0 < l.step := by omega
              have s0nd : decide (0 < l.step) = true := decide_eq_true s0n
              have s30 : (l.step : Int) < 30 := by omega
              have s30d : decide ((l.step : Int) < 30) = true := decide_eq_true s30
              have s30n : l.step < 30 := by omega
              have s30nd : decide (l.step < 30) = true := decide_eq_true s30n
              have c50 : (l.count : Int) < 50 := by omega
              have c50d : decide ((l.count : Int) < 50) = true := decide_eq_true c50
              have c50n : l.count < 50 := by omega
              have c50nd : decide (l.count < 50) = true := decide_eq_true c50n
              have p50 : ¬ (l.prev : Int) ≤ 50 := by omega
              have p50d : decide ((l.prev : Int) ≤ 50) = false := decide_eq_false p50
              have p50n : ¬ l.prev ≤ 50 := by omega
              have p50nd : decide (l.prev ≤ 50) = false := decide_eq_false p50n; clear hrl hp q0 q1 q2 q3
              go_upto_region 6 with (first | (go_at_call 88; go_must (with_reducible refine (cp _).mono ?_); rintro e w' ⟨rfl, hw⟩; rw [hw]; clear hw w'))
              go_region
              all_goals go_wp2
              all_goals (try simp only [Exit.inBlock, Exit.then])
              all_goals (refine bodyPost_ret (v := .tuple #[.agg #[.int .i64 l.step, .int .i64 l.count, .int .i64 l.prev, .int .i64 l.pub, .string (str l.head), .string (str l.body)], .bool false]) ?_ ?_ ?_)
              all_goals first
                | rfl
                | (rw [results_cell_tmp (fn := Tryz.f114) rfl]; simp [go_sem, a0, a1, a2, a3, a4, a5])
                | (refine ⟨by rw [HRL.out], ?_⟩
                   repeat (first | (with_reducible refine Below.setCell ?_ (by exact Nat.le_refl _) _) | (with_reducible refine Below.drew ?_))
                   exact HW.out)
          · have _z := q2
            have hrl : decide (rightR l) = false := decide_eq_false fun z => q2 z.2.2.1
            have HRL : Hid (decide (rightR l) = false) := hrl
            have cp : ∀ w, Calls Tryz.prog 88 #[.int .i64 l.pub] w fun e w' => e = .returned (.bool true) ∧ w' = w := fun w => by
              have := refIsPublic_any (l.pub : Int) w
              rw [decide_eq_true hp] at this
              exact this
            have s0 : (0 : Int) < (l.step : Int) := by omega
            have s0d : decide ((0 : Int) < (l.step : Int)) = true := decide_eq_true s0
            have s0n : 0 < l.step := by omega
            have s0nd : decide (0 < l.step) = true := decide_eq_true s0n
            have s30 : (l.step : Int) < 30 := by omega
            have s30d : decide ((l.step : Int) < 30) = true := decide_eq_true s30
            have s30n : l.step < 30 := by omega
            have s30nd : decide (l.step < 30) = true := decide_eq_true s30n
            have c50 : ¬ (l.count : Int) < 50 := by omega
            have c50d : decide ((l.count : Int) < 50) = false := decide_eq_false c50
            have c50n : ¬ l.count < 50 := by omega
            have c50nd : decide (l.count < 50) = false := decide_eq_false c50n; clear hrl hp q0 q1 q2
            go_upto_region 6 with (first | (go_at_call 88; go_must (with_reducible refine (cp _).mono ?_); rintro e w' ⟨rfl, hw⟩; rw [hw]; clear hw w'))
            go_region
            all_goals go_wp2
            all_goals (try simp only [Exit.inBlock, Exit.then])
            all_goals (refine bodyPost_ret (v := .tuple #[.agg #[.int .i64 l.step, .int .i64 l.count, .int .i64 l.prev, .int .i64 l.pub, .string (str l.head), .string (str l.body)], .bool false]) ?_ ?_ ?_)
            all_goals first
              | rfl
              | (rw [results_cell_tmp (fn := Tryz.f114) rfl]; simp [go_sem, a0, a1, a2, a3, a4, a5])
              | (refine ⟨by rw [HRL.out], ?_⟩
                 repeat (first | (with_reducible refine Below.setCell ?_ (by exact Nat.le_refl _) _) | (with_reducible refine Below.drew ?_))
                 exact HW.out)
        · have _z := q1
          have hrl : decide (rightR l) = false := decide_eq_false fun z => q1 z.2.1
          have HRL : Hid (decide (rightR l) = false) := hrl
          have cp : ∀ w, Calls Tryz.prog 88 #[.int .i64 l.pub] w fun e w' => e = .returned (.bool true) ∧ w' = w := fun w => by
            have := refIsPublic_any (l.pub : Int) w
            rw [decide_eq_true hp] at this
            exact this
          have s0 : (0 : Int) < (l.step : Int) := by omega
          have s0d : decide ((0 : Int) < (l.step : Int)) = true := decide_eq_true s0
          have s0n : 0 < l.step := by omega
          have s0nd : decide (0 < l.step) = true := decide_eq_true s0n
          have s30 : ¬ (l.step : Int) < 30 := by omega
          have s30d : decide ((l.step : Int) < 30) = false := decide_eq_false s30
          have s30n : ¬ l.step < 30 := by omega
          have s30nd : decide (l.step < 30) = false := decide_eq_false s30n; clear hrl hp q0 q1
          go_upto_region 6 with (first | (go_at_call 88; go_must (with_reducible refine (cp _).mono ?_); rintro e w' ⟨rfl, hw⟩; rw [hw]; clear hw w'))
          go_region
          all_goals go_wp2
          all_goals (try simp only [Exit.inBlock, Exit.then])
          all_goals (refine bodyPost_ret (v := .tuple #[.agg #[.int .i64 l.step, .int .i64 l.count, .int .i64 l.prev, .int .i64 l.pub, .string (str l.head), .string (str l.body)], .bool false]) ?_ ?_ ?_)
          all_goals first
            | rfl
            | (rw [results_cell_tmp (fn := Tryz.f114) rfl]; simp [go_sem, a0, a1, a2, a3, a4, a5])
            | (refine ⟨by rw [HRL.out], ?_⟩
               repeat (first | (with_reducible refine Below.setCell ?_ (by exact Nat.le_refl _) _) | (with_reducible refine Below.drew ?_))
               exact HW.out)
      · have _z := q0
        have hrl : decide (rightR l) = false := decide_eq_false fun z => q0 z.1
        have HRL : Hid (decide (rightR l) = false) := hrl
        have cp : ∀ w, Calls Tryz.prog 88 #[.int .i64 l.pub] w fun e w' => e = .returned (.bool true) ∧ w' = w := fun w => by
          have := refIsPublic_any (l.pub : Int) w
          rw [decide_eq_true hp] at this
          exact this
        have s0 : ¬ (0 : Int) < (l.step : Int) := by omega
        have s0d : decide ((0 : Int) < (l.step : Int)) = false := decide_eq_false s0
        have s0n : ¬ 0 < l.step := by omega
        have s0nd : decide (0 < l.step) = false := decide_eq_false s0n; clear hrl hp q0
        go_upto_region 6 with (first | (go_at_call 88; go_must (with_reducible refine (cp _).mono ?_); rintro e w' ⟨rfl, hw⟩; rw [hw]; clear hw w'))
        go_region
        all_goals go_wp2
        all_goals (try simp only [Exit.inBlock, Exit.then])
        all_goals (refine bodyPost_ret (v := .tuple #[.agg #[.int .i64 l.step, .int .i64 l.count, .int .i64 l.prev, .int .i64 l.pub, .string (str l.head), .string (str l.body)], .bool false]) ?_ ?_ ?_)
        all_goals first
          | rfl
          | (rw [results_cell_tmp (fn := Tryz.f114) rfl]; simp [go_sem, a0, a1, a2, a3, a4, a5])
          | (refine ⟨by rw [HRL.out], ?_⟩
             repeat (first | (with_reducible refine Below.setCell ?_ (by exact Nat.le_refl _) _) | (with_reducible refine Below.drew ?_))
             exact HW.out)
    · have _z := hp
      have hrl : decide (rightR l) = false := decide_eq_false fun z => hp z.2.2.2.2
      have HRL : Hid (decide (rightR l) = false) := hrl
      have cp : ∀ w, Calls Tryz.prog 88 #[.int .i64 l.pub] w fun e w' => e = .returned (.bool false) ∧ w' = w := fun w => by
        have := refIsPublic_any (l.pub : Int) w
        rw [decide_eq_false hp] at this
        exact this
      clear hrl hp
      go_upto_region 6 with (first | (go_at_call 88; go_must (with_reducible refine (cp _).mono ?_); rintro e w' ⟨rfl, hw⟩; rw [hw]; clear hw w'))
      go_region
      all_goals go_wp2
      all_goals (try simp only [Exit.inBlock, Exit.then])
      all_goals (refine bodyPost_ret (v := .tuple #[.agg #[.int .i64 l.step, .int .i64 l.count, .int .i64 l.prev, .int .i64 l.pub, .string (str l.head), .string (str l.body)], .bool false]) ?_ ?_ ?_)
      all_goals first
        | rfl
        | (rw [results_cell_tmp (fn := Tryz.f114) rfl]; simp [go_sem, a0, a1, a2, a3, a4, a5])
        | (refine ⟨by rw [HRL.out], ?_⟩
           repeat (first | (with_reducible refine Below.setCell ?_ (by exact Nat.le_refl _) _) | (with_reducible refine Below.drew ?_))
           exact HW.out)
theorem refParse_any (t : ByteArray) (w : World) (ht : t.size ≤ maxLen) :
    Calls Tryz.prog 114 #[.string t] w fun e w' => (∃ l : LetM, e = .returned (.tuple #[.agg #[.int .i64 l.step, .int .i64 l.count, .int .i64 l.prev, .int .i64 l.pub, .string (str l.head), .string (str l.body)], .bool (decide (letOk t.data.toList))]) ∧ (letOk t.data.toList → l = letOf t.data.toList)) ∧ Below w.heap.size w w' := by
  have htl := len_list t
  by_cases h : 15 ≤ t.size ∧ t.size ≤ 55
  · refine (refParse_yes t w h.1 h.2).mono ?_
    rintro e w' ⟨he, hb⟩
    have hd : decide (rightR (letOf t.data.toList)) = decide (letOk t.data.toList) := by
      by_cases q : rightR (letOf t.data.toList)
      · rw [decide_eq_true q, decide_eq_true (show letOk t.data.toList from ⟨by rw [htl]; exact h, q⟩)]
      · rw [decide_eq_false q, decide_eq_false (fun z : letOk t.data.toList => q z.2)]
    rw [hd] at he
    exact ⟨⟨letOf t.data.toList, he, fun _ => rfl⟩, hb⟩
  · refine (refParse_no t w ht h).mono ?_
    rintro e w' ⟨he, hb⟩
    have hd : ¬ letOk t.data.toList := fun q => h (by have := q.1; rw [htl] at this; exact this)
    rw [decide_eq_false hd]
    exact ⟨⟨{ step := 0, count := 0, prev := 0, pub := 0, head := [], body := [] }, he, fun q => absurd q hd⟩, hb⟩
theorem refDue_eq {s : StM} (h : LawQ s) (hk : Keyed s) (h2 : 2 ≤ s.step) (count : Nat) (hc : count ≤ 49) (hge : s.got ≤ count) :
    (refDueR s count).1 = (dueR s count).1 ∧ ((dueR s count).1 = 0 → (refDueR s count).2.1 = (dueR s count).2.1 ∧ (refDueR s count).2.2 = capS (dueR s count).2.2) := by
  rw [refDueR, dueR]
  by_cases hb : skipBad s count
  · rw [if_pos hb, if_pos hb]
    exact ⟨rfl, fun q => absurd q (by simp)⟩
  · rw [if_neg hb, if_neg hb]
    refine ⟨rfl, fun _ => ⟨rfl, ?_⟩⟩
    have hr := (due_law h hk h2 count hc hge hb).1.keys.srt
    show ({ dueS s count with kept := greatL (dueS s count).kept s.cap } : StM) = capS (dueS s count)
    rw [great_drop _ _ hr]
    rfl
theorem refTake_eq {s : StM} (h : LawQ s) (hk : Keyed s) (hn : s.kept.length ≤ s.cap) (l : LetM) (draw : Nat) (hl1 : 1 ≤ l.step) (hl2 : l.step ≤ 29) (hc : l.count ≤ 49) (hp : l.prev ≤ 50) (hpub : Pub (l.pub : Int)) (hd : Sec (draw : Int)) (hx : ¬ (s.step + 1 < l.step ∨ l.step % 2 = s.step % 2)) :
    (refTakeR s l draw).1 = (keyR s l draw).1 ∧ ((keyR s l draw).1 = 0 → (refTakeR s l draw).2.1 = (keyR s l draw).2.1 ∧ (refTakeR s l draw).2.2 = capS (keyR s l draw).2.2) := by
  rw [refTakeR, keyR, if_neg hx]
  by_cases h1 : l.step = s.step + 1
  · rw [if_pos h1, if_pos h1, refTurnR, turnR]
    by_cases h2 : 2 ≤ s.step ∧ skipBad s l.prev
    · rw [if_pos h2, if_pos h2]
      exact ⟨rfl, fun q => absurd q (by simp)⟩
    · rw [if_neg h2, if_neg h2]; obtain ⟨e1, e2⟩ := end_law h hk l.prev hp h2
      obtain ⟨t1, t2⟩ := turn_law e1 e2 l.step l.pub draw (by rw [(endS_step s l.prev).1]; exact h1) hl2 hpub hd
      exact refDue_eq t1 t2 (by show 2 ≤ l.step + 1; omega) l.count hc (by show 0 ≤ l.count; omega)
  · rw [if_neg h1, if_neg h1]
    by_cases h2 : l.step + 1 = s.step ∧ s.got ≤ l.count
    · rw [if_pos h2, if_pos h2]
      exact refDue_eq h hk (by omega) l.count hc h2.2
    · rw [if_neg h2, if_neg h2]
      refine ⟨rfl, fun q => ⟨rfl, ?_⟩⟩
      rw [capS_id]
      rw [oldR] at q ⊢
      cases hf : s.kept.find? (isEnt l.step l.count) with
      | none => rw [hf] at q; simp at q
      | some e =>
        show (s.kept.filter _).length ≤ s.cap
        exact Nat.le_trans (List.length_filter_le _ _) hn
theorem refRecv_bad (d t : ByteArray) (draw : Int) (w : World) (hd : d.size ≤ maxLen) (h : openErr d.data.toList ≠ 0) :
    Calls Tryz.prog 70 #[.string d, .string t, .int .i64 draw] w fun e w' => e = .returned (.tuple #[.string ⟨#[]⟩, .string ⟨#[]⟩, .int .i64 (openErr d.data.toList)]) ∧ Below w.heap.size w w' := by
  have c1 : ∀ w, Calls Tryz.prog 33 #[.string d] w fun e w' => e = .returned (.tuple #[.agg #[.int .i64 0, .int .i64 0, .int .i64 0, .int .i64 0, .int .i64 0, .int .i64 0, .int .i64 0, .string ⟨#[]⟩, .string ⟨#[]⟩, .string ⟨#[]⟩, .int .i64 0, .int .i64 0, .slice none 0 0], .int .i64 0, .int .i64 (openErr d.data.toList)]) ∧ Below w.heap.size w w' := by
    intro w
    refine (refOpen_any d w hd).mono ?_
    rintro e w' ⟨q, hb⟩
    rcases q with ⟨q, _⟩ | ⟨_, q⟩
    · exact absurd q h
    · exact ⟨q, hb⟩
  have hne : (openErr d.data.toList == 0) = false := by rw [beq_eq_false_iff_ne]; exact h
  generalize openErr d.data.toList = er at *
  go_enter Tryz.func70, Tryz.ntmps70
  go_wp2_with (first | (go_at_call 33; (with_reducible refine (c1 _).mono ?_); rintro e w1 ⟨rfl, hb1⟩))
  go_ret3
  exact ⟨rfl, hb1.alloc hb1.size _⟩
theorem refRecv_sec (d t : ByteArray) (draw : Int) (w : World) (hd : d.size ≤ maxLen) (h : openErr d.data.toList = 0) (hs : ¬ Sec draw) :
    Calls Tryz.prog 70 #[.string d, .string t, .int .i64 draw] w fun e w' => e = .returned (.tuple #[.string ⟨#[]⟩, .string ⟨#[]⟩, .int .i64 3]) ∧ Below w.heap.size w w' := by
  have c1 : ∀ w, Calls Tryz.prog 33 #[.string d] w fun e w' => (∃ (a : Option Addr) (n c : Nat), e = .returned (.tuple #[.agg (stCells (heldS d.data.toList) (.slice a n c)), .int .i64 (liveL d.data.toList : Int), .int .i64 0]) ∧ w'.ownsRow w.heap.size 119 3 (.slice a n c) (heldS d.data.toList).kept.length (entsCells (heldS d.data.toList).kept)) ∧ Below w.heap.size w w' := by
    intro w
    refine (refOpen_any d w hd).mono ?_
    rintro e w' ⟨q, hb⟩
    rcases q with ⟨_, q⟩ | ⟨q, _⟩
    · exact ⟨q, hb⟩
    · exact absurd h q
  unfold stCells at c1
  have c2 : ∀ w, Calls Tryz.prog 87 #[.int .i64 draw] w fun e w' => e = .returned (.bool false) ∧ w' = w := fun w => by
    have := refIsSecret_any draw w
    rw [decide_eq_false hs] at this
    exact this
  generalize heldS d.data.toList = ss at *
  clear h hs
  go_enter Tryz.func70, Tryz.ntmps70
  go_wp2_with (first | (go_at_call 33; (with_reducible refine (c1 _).mono ?_); rintro e w1 ⟨⟨aa, nn, cc, rfl, hown⟩, hb1⟩) | (go_at_call 87; (with_reducible refine (c2 _).mono ?_); rintro e w' ⟨rfl, hw⟩; rw [hw]; clear hw w'))
  go_ret3
  exact ⟨rfl, hb1.alloc hb1.size _⟩
theorem refRecv_frame (d t : ByteArray) (draw : Int) (w : World) (hd : d.size ≤ maxLen) (ht : t.size ≤ maxLen) (h : openErr d.data.toList = 0) (hs : Sec draw) (hl : ¬ letOk t.data.toList) :
    Calls Tryz.prog 70 #[.string d, .string t, .int .i64 draw] w fun e w' => e = .returned (.tuple #[.string ⟨#[]⟩, .string ⟨#[]⟩, .int .i64 4]) ∧ Below w.heap.size w w' := by
  have c1 : ∀ w, Calls Tryz.prog 33 #[.string d] w fun e w' => (∃ (a : Option Addr) (n c : Nat), e = .returned (.tuple #[.agg (stCells (heldS d.data.toList) (.slice a n c)), .int .i64 (liveL d.data.toList : Int), .int .i64 0]) ∧ w'.ownsRow w.heap.size 119 3 (.slice a n c) (heldS d.data.toList).kept.length (entsCells (heldS d.data.toList).kept)) ∧ Below w.heap.size w w' := by
    intro w
    refine (refOpen_any d w hd).mono ?_
    rintro e w' ⟨q, hb⟩
    rcases q with ⟨_, q⟩ | ⟨q, _⟩
    · exact ⟨q, hb⟩
    · exact absurd h q
  unfold stCells at c1
  have c2 : ∀ w, Calls Tryz.prog 87 #[.int .i64 draw] w fun e w' => e = .returned (.bool true) ∧ w' = w := fun w => by
    have := refIsSecret_any draw w
    rw [decide_eq_true hs] at this
    exact this
  have c3 : ∀ w, Calls Tryz.prog 114 #[.string t] w fun e w' => (∃ l : LetM, e = .returned (.tuple #[.agg #[.int .i64 l.step, .int .i64 l.count, .int .i64 l.prev, .int .i64 l.pub, .string (str l.head), .string (str l.body)], .bool false])) ∧ Below w.heap.size w w' := fun w => by
    refine (refParse_any t w ht).mono ?_
    rintro e w' ⟨⟨l, he, _⟩, hb⟩
    rw [decide_eq_false hl] at he
    exact ⟨⟨l, he⟩, hb⟩
  generalize heldS d.data.toList = ss at *
  clear h hs hl
  go_enter Tryz.func70, Tryz.ntmps70
  go_upto_region 7 with (first | (go_at_call 33; (with_reducible refine (c1 _).mono ?_); rintro e w1 ⟨⟨aa, nn, cc, rfl, hown⟩, hb1⟩) | (go_at_call 87; (with_reducible refine (c2 _).mono ?_); rintro e w' ⟨rfl, hw⟩; rw [hw]; clear hw w'))
  have hW := hb1.alloc hb1.size (.cells #[.int .i64 ss.role, .int .i64 ss.step, .int .i64 ss.sent, .int .i64 ss.got, .int .i64 ss.prev, .int .i64 ss.skip, .int .i64 ss.cap, .string (str ss.root), .string (str ss.out), .string (str ss.inn), .int .i64 ss.secret, .int .i64 ss.peer, .slice aa nn cc] 63)
  generalize (w1.alloc (.cells #[.int .i64 ss.role, .int .i64 ss.step, .int .i64 ss.sent, .int .i64 ss.got, .int .i64 ss.prev, .int .i64 ss.skip, .int .i64 ss.cap, .string (str ss.root), .string (str ss.out), .string (str ss.inn), .int .i64 ss.secret, .int .i64 ss.peer, .slice aa nn cc] 63)) = wa at hW ⊢
  generalize w1.heap.size = B at *
  clear hown hb1
  go_wp2_with (first | (go_at_call 114; (with_reducible refine (c3 _).mono ?_); rintro e w2 ⟨⟨l, rfl⟩, hb2⟩))
  go_ret3
  have hx := below_tr hW hb2; exact ⟨rfl, hx.alloc hx.size _⟩
theorem refRecv_far (d t : ByteArray) (draw : Int) (w : World) (hd : d.size ≤ maxLen) (ht : t.size ≤ maxLen) (h : openErr d.data.toList = 0) (hs : Sec draw) (hl : letOk t.data.toList) (hx : (heldS d.data.toList).step + 1 < (letOf t.data.toList).step) :
    Calls Tryz.prog 70 #[.string d, .string t, .int .i64 draw] w fun e w' => e = .returned (.tuple #[.string ⟨#[]⟩, .string ⟨#[]⟩, .int .i64 15]) ∧ Below w.heap.size w w' := by
  obtain ⟨k, hg⟩ := open_good _ h; have hdl := len_list d
  have hk : d.size = k * 32 := by rw [← hdl]; exact hg.len
  have hk2 := hg.k2; have hlv := hg.live; obtain ⟨gl, gk⟩ := good_lawQ hg; have hkl := hg.kept; have hcap := hg.cap; obtain ⟨p1, p2, p3, p4, p5, p6, p7, p8⟩ := letOk_parts hl; have hsn := sec_nat hs; have hsl := gl.step
  have c1 : ∀ w, Calls Tryz.prog 33 #[.string d] w fun e w' => (∃ (a : Option Addr) (n c : Nat), e = .returned (.tuple #[.agg (stCells (heldS d.data.toList) (.slice a n c)), .int .i64 (liveL d.data.toList : Int), .int .i64 0]) ∧ w'.ownsRow w.heap.size 119 3 (.slice a n c) (heldS d.data.toList).kept.length (entsCells (heldS d.data.toList).kept)) ∧ Below w.heap.size w w' := by
    intro w
    refine (refOpen_any d w hd).mono ?_
    rintro e w' ⟨q, hb⟩
    rcases q with ⟨_, q⟩ | ⟨q, _⟩
    · exact ⟨q, hb⟩
    · exact absurd h q
  unfold stCells at c1
  have c2 : ∀ w, Calls Tryz.prog 87 #[.int .i64 draw] w fun e w' => e = .returned (.bool true) ∧ w' = w := fun w => by
    have := refIsSecret_any draw w
    rw [decide_eq_true hs] at this
    exact this
  have c3 : ∀ w, Calls Tryz.prog 114 #[.string t] w fun e w' => e = .returned (.tuple #[.agg #[.int .i64 ((letOf t.data.toList).step : Int), .int .i64 ((letOf t.data.toList).count : Int), .int .i64 ((letOf t.data.toList).prev : Int), .int .i64 ((letOf t.data.toList).pub : Int), .string (str (letOf t.data.toList).head), .string (str (letOf t.data.toList).body)], .bool true]) ∧ Below w.heap.size w w' := fun w => by
    refine (refParse_any t w ht).mono ?_
    rintro e w' ⟨⟨l, he, hq⟩, hb⟩
    rw [decide_eq_true hl, hq hl] at he
    exact ⟨he, hb⟩
  generalize heldS d.data.toList = ss at *
  generalize letOf t.data.toList = l at *
  have i1 : (ss.step : Int) + 1 < (l.step : Int) := by omega
  clear h hs hl hg gl gk hdl hk hsn hx
  go_enter Tryz.func70, Tryz.ntmps70
  go_upto_region 7 with (first | (go_at_call 33; (with_reducible refine (c1 _).mono ?_); rintro e w1 ⟨⟨aa, nn, cc, rfl, hown⟩, hb1⟩) | (go_at_call 87; (with_reducible refine (c2 _).mono ?_); rintro e w' ⟨rfl, hw⟩; rw [hw]; clear hw w'))
  obtain ⟨ob, eob⟩ : ∃ ob, ob = Obj.cells #[.int .i64 ss.role, .int .i64 ss.step, .int .i64 ss.sent, .int .i64 ss.got, .int .i64 ss.prev, .int .i64 ss.skip, .int .i64 ss.cap, .string (str ss.root), .string (str ss.out), .string (str ss.inn), .int .i64 ss.secret, .int .i64 ss.peer, .slice aa nn cc] 63 := ⟨_, rfl⟩
  rw [← eob]; have hB := heap_alloc_new w1 ob; have hE : EntsAt (w1.alloc ob) (.slice aa nn cc) ss.kept := EntsAt.of_own (hown.alloc _); have hW : Below w.heap.size w (w1.alloc ob) := hb1.alloc hb1.size _
  have hlt : w1.heap.size < (w1.alloc ob).heap.size := by simp
  generalize (w1.alloc ob) = wa at hB hE hW hlt ⊢
  subst eob
  generalize w1.heap.size = B at *
  have HBa := hid hB; have HEa := hid hE; have HWa := hid hW; clear hB hE hW hown hb1 c1 c2
  go_upto_region 10 with (first | (go_at_call 114; (with_reducible refine (c3 _).mono ?_); rintro e w2 ⟨rfl, hb2⟩))
  have hsz2 := hb2.size
  obtain ⟨ob, eob⟩ : ∃ ob, ob = Obj.cells #[.int .i64 l.step, .int .i64 l.count, .int .i64 l.prev, .int .i64 l.pub, .string (str l.head), .string (str l.body)] 145 := ⟨_, rfl⟩
  rw [← eob]; have hL := heap_alloc_new w2 ob
  have hB : (w2.alloc ob).heap[B]? = some (.cells #[.int .i64 ss.role, .int .i64 ss.step, .int .i64 ss.sent, .int .i64 ss.got, .int .i64 ss.prev, .int .i64 ss.skip, .int .i64 ss.cap, .string (str ss.root), .string (str ss.out), .string (str ss.inn), .int .i64 ss.secret, .int .i64 ss.peer, .slice aa nn cc] 63) := (Below.heap_alloc _ _ _ (by omega)).trans ((hb2.block B hlt).trans HBa.out)
  have hE : EntsAt (w2.alloc ob) (.slice aa nn cc) ss.kept := (HEa.out.next hb2).next ((Below.refl _ _).alloc (Nat.le_refl _) _); have hW : Below w.heap.size w (w2.alloc ob) := (below_tr HWa.out hb2).alloc (below_tr HWa.out hb2).size _
  have hltL : w2.heap.size < (w2.alloc ob).heap.size := by simp
  have hltB : B < w2.heap.size := by omega
  generalize (w2.alloc ob) = wb at hB hL hE hW hltL ⊢
  subst eob
  generalize w2.heap.size = L at *
  have HB := hid hB; have HL := hid hL; have HE := hid hE; have HW := hid hW; obtain ⟨k0, k1, k2, k3, k4, k5, k6, k7, k8, k9, k10, k11, k12⟩ := cells13 hB; obtain ⟨q0, q1, q2, q3, q4, q5⟩ := cells6 hL; clear hB hL hE hW hb2 hsz2 HBa HEa HWa c3 hlt; go_wp2
  go_ret3
  exact ⟨rfl, HW.out⟩
theorem refRecv_same (d t : ByteArray) (draw : Int) (w : World) (hd : d.size ≤ maxLen) (ht : t.size ≤ maxLen) (h : openErr d.data.toList = 0) (hs : Sec draw) (hl : letOk t.data.toList) (hx : ¬ (heldS d.data.toList).step + 1 < (letOf t.data.toList).step ∧ (letOf t.data.toList).step % 2 = (heldS d.data.toList).step % 2) :
    Calls Tryz.prog 70 #[.string d, .string t, .int .i64 draw] w fun e w' => e = .returned (.tuple #[.string ⟨#[]⟩, .string ⟨#[]⟩, .int .i64 15]) ∧ Below w.heap.size w w' := by
  obtain ⟨k, hg⟩ := open_good _ h; have hdl := len_list d
  have hk : d.size = k * 32 := by rw [← hdl]; exact hg.len
  have hk2 := hg.k2; have hlv := hg.live; obtain ⟨gl, gk⟩ := good_lawQ hg; have hkl := hg.kept; have hcap := hg.cap; obtain ⟨p1, p2, p3, p4, p5, p6, p7, p8⟩ := letOk_parts hl; have hsn := sec_nat hs; have hsl := gl.step
  have c1 : ∀ w, Calls Tryz.prog 33 #[.string d] w fun e w' => (∃ (a : Option Addr) (n c : Nat), e = .returned (.tuple #[.agg (stCells (heldS d.data.toList) (.slice a n c)), .int .i64 (liveL d.data.toList : Int), .int .i64 0]) ∧ w'.ownsRow w.heap.size 119 3 (.slice a n c) (heldS d.data.toList).kept.length (entsCells (heldS d.data.toList).kept)) ∧ Below w.heap.size w w' := by
    intro w
    refine (refOpen_any d w hd).mono ?_
    rintro e w' ⟨q, hb⟩
    rcases q with ⟨_, q⟩ | ⟨q, _⟩
    · exact ⟨q, hb⟩
    · exact absurd h q
  unfold stCells at c1
  have c2 : ∀ w, Calls Tryz.prog 87 #[.int .i64 draw] w fun e w' => e = .returned (.bool true) ∧ w' = w := fun w => by
    have := refIsSecret_any draw w
    rw [decide_eq_true hs] at this
    exact this
  have c3 : ∀ w, Calls Tryz.prog 114 #[.string t] w fun e w' => e = .returned (.tuple #[.agg #[.int .i64 ((letOf t.data.toList).step : Int), .int .i64 ((letOf t.data.toList).count : Int), .int .i64 ((letOf t.data.toList).prev : Int), .int .i64 ((letOf t.data.toList).pub : Int), .string (str (letOf t.data.toList).head), .string (str (letOf t.data.toList).body)], .bool true]) ∧ Below w.heap.size w w' := fun w => by
    refine (refParse_any t w ht).mono ?_
    rintro e w' ⟨⟨l, he, hq⟩, hb⟩
    rw [decide_eq_true hl, hq hl] at he
    exact ⟨he, hb⟩
  generalize heldS d.data.toList = ss at *
  generalize letOf t.data.toList = l at *
  have i1 : ¬ (ss.step : Int) + 1 < (l.step : Int) := by omega
  have i2 : (((l.step : Int) + (ss.step : Int)) % 2 == 0) = true := by rw [beq_iff_eq]; omega
  clear h hs hl hg gl gk hdl hk hsn hx
  go_enter Tryz.func70, Tryz.ntmps70
  go_upto_region 7 with (first | (go_at_call 33; (with_reducible refine (c1 _).mono ?_); rintro e w1 ⟨⟨aa, nn, cc, rfl, hown⟩, hb1⟩) | (go_at_call 87; (with_reducible refine (c2 _).mono ?_); rintro e w' ⟨rfl, hw⟩; rw [hw]; clear hw w'))
  obtain ⟨ob, eob⟩ : ∃ ob, ob = Obj.cells #[.int .i64 ss.role, .int .i64 ss.step, .int .i64 ss.sent, .int .i64 ss.got, .int .i64 ss.prev, .int .i64 ss.skip, .int .i64 ss.cap, .string (str ss.root), .string (str ss.out), .string (str ss.inn), .int .i64 ss.secret, .int .i64 ss.peer, .slice aa nn cc] 63 := ⟨_, rfl⟩
  rw [← eob]; have hB := heap_alloc_new w1 ob; have hE : EntsAt (w1.alloc ob) (.slice aa nn cc) ss.kept := EntsAt.of_own (hown.alloc _); have hW : Below w.heap.size w (w1.alloc ob) := hb1.alloc hb1.size _
  have hlt : w1.heap.size < (w1.alloc ob).heap.size := by simp
  generalize (w1.alloc ob) = wa at hB hE hW hlt ⊢
  subst eob
  generalize w1.heap.size = B at *
  have HBa := hid hB; have HEa := hid hE; have HWa := hid hW; clear hB hE hW hown hb1 c1 c2
  go_upto_region 10 with (first | (go_at_call 114; (with_reducible refine (c3 _).mono ?_); rintro e w2 ⟨rfl, hb2⟩))
  have hsz2 := hb2.size
  obtain ⟨ob, eob⟩ : ∃ ob, ob = Obj.cells #[.int .i64 l.step, .int .i64 l.count, .int .i64 l.prev, .int .i64 l.pub, .string (str l.head), .string (str l.body)] 145 := ⟨_, rfl⟩
  rw [← eob]; have hL := heap_alloc_new w2 ob
  have hB : (w2.alloc ob).heap[B]? = some (.cells #[.int .i64 ss.role, .int .i64 ss.step, .int .i64 ss.sent, .int .i64 ss.got, .int .i64 ss.prev, .int .i64 ss.skip, .int .i64 ss.cap, .string (str ss.root), .string (str ss.out), .string (str ss.inn), .int .i64 ss.secret, .int .i64 ss.peer, .slice aa nn cc] 63) := (Below.heap_alloc _ _ _ (by omega)).trans ((hb2.block B hlt).trans HBa.out)
  have hE : EntsAt (w2.alloc ob) (.slice aa nn cc) ss.kept := (HEa.out.next hb2).next ((Below.refl _ _).alloc (Nat.le_refl _) _); have hW : Below w.heap.size w (w2.alloc ob) := (below_tr HWa.out hb2).alloc (below_tr HWa.out hb2).size _
  have hltL : w2.heap.size < (w2.alloc ob).heap.size := by simp
  have hltB : B < w2.heap.size := by omega
  generalize (w2.alloc ob) = wb at hB hL hE hW hltL ⊢
  subst eob
  generalize w2.heap.size = L at *
  have HB := hid hB; have HL := hid hL; have HE := hid hE; have HW := hid hW; obtain ⟨k0, k1, k2, k3, k4, k5, k6, k7, k8, k9, k10, k11, k12⟩ := cells13 hB; obtain ⟨q0, q1, q2, q3, q4, q5⟩ := cells6 hL; clear hB hL hE hW hb2 hsz2 HBa HEa HWa c3 hlt; go_wp2
  go_ret3
  exact ⟨rfl, HW.out⟩
theorem refRecv_ref (d t : ByteArray) (draw : Int) (w : World) (hd : d.size ≤ maxLen) (ht : t.size ≤ maxLen) (h : openErr d.data.toList = 0) (hs : Sec draw) (hl : letOk t.data.toList) (hx : ¬ ((heldS d.data.toList).step + 1 < (letOf t.data.toList).step ∨ (letOf t.data.toList).step % 2 = (heldS d.data.toList).step % 2)) (hr : (keyR (heldS d.data.toList) (letOf t.data.toList) draw.toNat).1 ≠ 0) :
    Calls Tryz.prog 70 #[.string d, .string t, .int .i64 draw] w fun e w' => e = .returned (.tuple #[.string ⟨#[]⟩, .string ⟨#[]⟩, .int .i64 (keyR (heldS d.data.toList) (letOf t.data.toList) draw.toNat).1]) ∧ Below w.heap.size w w' := by
  obtain ⟨k, hg⟩ := open_good _ h; have hdl := len_list d
  have hk : d.size = k * 32 := by rw [← hdl]; exact hg.len
  have hk2 := hg.k2; have hlv := hg.live; obtain ⟨gl, gk⟩ := good_lawQ hg; have hkl := hg.kept; have hcap := hg.cap; obtain ⟨p1, p2, p3, p4, p5, p6, p7, p8⟩ := letOk_parts hl; have hsn := sec_nat hs; have hsl := gl.step
  have c1 : ∀ w, Calls Tryz.prog 33 #[.string d] w fun e w' => (∃ (a : Option Addr) (n c : Nat), e = .returned (.tuple #[.agg (stCells (heldS d.data.toList) (.slice a n c)), .int .i64 (liveL d.data.toList : Int), .int .i64 0]) ∧ w'.ownsRow w.heap.size 119 3 (.slice a n c) (heldS d.data.toList).kept.length (entsCells (heldS d.data.toList).kept)) ∧ Below w.heap.size w w' := by
    intro w
    refine (refOpen_any d w hd).mono ?_
    rintro e w' ⟨q, hb⟩
    rcases q with ⟨_, q⟩ | ⟨q, _⟩
    · exact ⟨q, hb⟩
    · exact absurd h q
  unfold stCells at c1
  have c2 : ∀ w, Calls Tryz.prog 87 #[.int .i64 draw] w fun e w' => e = .returned (.bool true) ∧ w' = w := fun w => by
    have := refIsSecret_any draw w
    rw [decide_eq_true hs] at this
    exact this
  have c3 : ∀ w, Calls Tryz.prog 114 #[.string t] w fun e w' => e = .returned (.tuple #[.agg #[.int .i64 ((letOf t.data.toList).step : Int), .int .i64 ((letOf t.data.toList).count : Int), .int .i64 ((letOf t.data.toList).prev : Int), .int .i64 ((letOf t.data.toList).pub : Int), .string (str (letOf t.data.toList).head), .string (str (letOf t.data.toList).body)], .bool true]) ∧ Below w.heap.size w w' := fun w => by
    refine (refParse_any t w ht).mono ?_
    rintro e w' ⟨⟨l, he, hq⟩, hb⟩
    rw [decide_eq_true hl, hq hl] at he
    exact ⟨he, hb⟩
  have cT : ∀ (a : Option Addr) (n c : Nat) (w : World), EntsAt w (.slice a n c) (heldS d.data.toList).kept → Calls Tryz.prog 115 #[.agg (stCells (heldS d.data.toList) (.slice a n c)), .agg #[.int .i64 ((letOf t.data.toList).step : Int), .int .i64 ((letOf t.data.toList).count : Int), .int .i64 ((letOf t.data.toList).prev : Int), .int .i64 ((letOf t.data.toList).pub : Int), .string (str (letOf t.data.toList).head), .string (str (letOf t.data.toList).body)], .int .i64 draw] w fun e w' => TakeRef (refTakeR (heldS d.data.toList) (letOf t.data.toList) draw.toNat) w.heap.size w' e ∧ Below w.heap.size w w' := fun a n c w hE => by
    have hse := gl.sec; have hgo := gl.got
    unfold Sec at hse hs
    unfold Pub at p5
    have := refTaken_any (heldS d.data.toList) a n c (letOf t.data.toList) draw.toNat w (by omega) (by omega) (by omega) (by omega) (by omega) (by omega) gk.inn gk.root (by omega) (by omega) (by omega) (by omega) gl.keys.srt gk.kept hE
    rw [hsn] at this
    exact this
  have heq := refTake_eq gl gk hkl (letOf t.data.toList) draw.toNat p1 p2 p3 p4 p5 (by rw [hsn]; exact hs) hx
  obtain ⟨er, her⟩ : ∃ er, er = (keyR (heldS d.data.toList) (letOf t.data.toList) draw.toNat).1 := ⟨_, rfl⟩
  rw [← her] at hr ⊢
  have cQ : ∀ (a : Option Addr) (n c : Nat) (w : World), EntsAt w (.slice a n c) (heldS d.data.toList).kept → Calls Tryz.prog 115 #[.agg (stCells (heldS d.data.toList) (.slice a n c)), .agg #[.int .i64 ((letOf t.data.toList).step : Int), .int .i64 ((letOf t.data.toList).count : Int), .int .i64 ((letOf t.data.toList).prev : Int), .int .i64 ((letOf t.data.toList).pub : Int), .string (str (letOf t.data.toList).head), .string (str (letOf t.data.toList).body)], .int .i64 draw] w fun e w' => (∃ (ky : ByteArray) (x : StM) (aL : Option Addr) (nL cL : Nat), e = .returned (.tuple #[.string ky, .agg #[.int .i64 x.role, .int .i64 x.step, .int .i64 x.sent, .int .i64 x.got, .int .i64 x.prev, .int .i64 x.skip, .int .i64 x.cap, .string (str x.root), .string (str x.out), .string (str x.inn), .int .i64 x.secret, .int .i64 x.peer, .slice aL nL cL], .int .i64 er])) ∧ Below w.heap.size w w' := fun a n c w hE => by
    refine (cT a n c w hE).mono ?_
    rintro e w' ⟨⟨ky, x, aL, nL, cL, he, _⟩, hb⟩
    refine ⟨⟨ky, x, aL, nL, cL, ?_⟩, hb⟩
    rw [he, heq.1, her]
    rfl
  unfold stCells at cQ
  have hne : (er == 0) = false := by rw [beq_eq_false_iff_ne]; exact hr
  clear heq her hr cT
  generalize heldS d.data.toList = ss at *
  generalize letOf t.data.toList = l at *
  have i1 : ¬ (ss.step : Int) + 1 < (l.step : Int) := by omega
  have i2 : (((l.step : Int) + (ss.step : Int)) % 2 == 0) = false := by rw [beq_eq_false_iff_ne]; omega
  clear h hs hl hg gl gk hdl hk hsn hx
  go_enter Tryz.func70, Tryz.ntmps70
  go_upto_region 7 with (first | (go_at_call 33; (with_reducible refine (c1 _).mono ?_); rintro e w1 ⟨⟨aa, nn, cc, rfl, hown⟩, hb1⟩) | (go_at_call 87; (with_reducible refine (c2 _).mono ?_); rintro e w' ⟨rfl, hw⟩; rw [hw]; clear hw w'))
  obtain ⟨ob, eob⟩ : ∃ ob, ob = Obj.cells #[.int .i64 ss.role, .int .i64 ss.step, .int .i64 ss.sent, .int .i64 ss.got, .int .i64 ss.prev, .int .i64 ss.skip, .int .i64 ss.cap, .string (str ss.root), .string (str ss.out), .string (str ss.inn), .int .i64 ss.secret, .int .i64 ss.peer, .slice aa nn cc] 63 := ⟨_, rfl⟩
  rw [← eob]; have hB := heap_alloc_new w1 ob; have hE : EntsAt (w1.alloc ob) (.slice aa nn cc) ss.kept := EntsAt.of_own (hown.alloc _); have hW : Below w.heap.size w (w1.alloc ob) := hb1.alloc hb1.size _
  have hlt : w1.heap.size < (w1.alloc ob).heap.size := by simp
  generalize (w1.alloc ob) = wa at hB hE hW hlt ⊢
  subst eob
  generalize w1.heap.size = B at *
  have HBa := hid hB; have HEa := hid hE; have HWa := hid hW; clear hB hE hW hown hb1 c1 c2
  go_upto_region 10 with (first | (go_at_call 114; (with_reducible refine (c3 _).mono ?_); rintro e w2 ⟨rfl, hb2⟩))
  have hsz2 := hb2.size
  obtain ⟨ob, eob⟩ : ∃ ob, ob = Obj.cells #[.int .i64 l.step, .int .i64 l.count, .int .i64 l.prev, .int .i64 l.pub, .string (str l.head), .string (str l.body)] 145 := ⟨_, rfl⟩
  rw [← eob]; have hL := heap_alloc_new w2 ob
  have hB : (w2.alloc ob).heap[B]? = some (.cells #[.int .i64 ss.role, .int .i64 ss.step, .int .i64 ss.sent, .int .i64 ss.got, .int .i64 ss.prev, .int .i64 ss.skip, .int .i64 ss.cap, .string (str ss.root), .string (str ss.out), .string (str ss.inn), .int .i64 ss.secret, .int .i64 ss.peer, .slice aa nn cc] 63) := (Below.heap_alloc _ _ _ (by omega)).trans ((hb2.block B hlt).trans HBa.out)
  have hE : EntsAt (w2.alloc ob) (.slice aa nn cc) ss.kept := (HEa.out.next hb2).next ((Below.refl _ _).alloc (Nat.le_refl _) _); have hW : Below w.heap.size w (w2.alloc ob) := (below_tr HWa.out hb2).alloc (below_tr HWa.out hb2).size _
  have hltL : w2.heap.size < (w2.alloc ob).heap.size := by simp
  have hltB : B < w2.heap.size := by omega
  generalize (w2.alloc ob) = wb at hB hL hE hW hltL ⊢
  subst eob
  generalize w2.heap.size = L at *
  have HB := hid hB; have HL := hid hL; have HE := hid hE; have HW := hid hW; obtain ⟨k0, k1, k2, k3, k4, k5, k6, k7, k8, k9, k10, k11, k12⟩ := cells13 hB; obtain ⟨q0, q1, q2, q3, q4, q5⟩ := cells6 hL; clear hB hL hE hW hb2 hsz2 HBa HEa HWa c3 hlt
  go_upto_region 13 with (first | (go_at_call 115; (with_reducible refine (cQ _ _ _ _ HE.out).mono ?_); rintro e w3 ⟨⟨ky, x, aL, nL, cL, rfl⟩, hb3⟩))
  have hW3 := below_tr HW.out hb3; have hW4 := hW3.alloc hW3.size (.cells #[.int .i64 x.role, .int .i64 x.step, .int .i64 x.sent, .int .i64 x.got, .int .i64 x.prev, .int .i64 x.skip, .int .i64 x.cap, .string (str x.root), .string (str x.out), .string (str x.inn), .int .i64 x.secret, .int .i64 x.peer, .slice aL nL cL] 63)
  generalize (w3.alloc (.cells #[.int .i64 x.role, .int .i64 x.step, .int .i64 x.sent, .int .i64 x.got, .int .i64 x.prev, .int .i64 x.skip, .int .i64 x.cap, .string (str x.root), .string (str x.out), .string (str x.inn), .int .i64 x.secret, .int .i64 x.peer, .slice aL nL cL] 63)) = wz at hW4 ⊢
  generalize w3.heap.size = B3 at *
  have HZ := hid hW4; clear hW3 hW4 hb3; go_wp2
  go_ret3
  exact ⟨rfl, HZ.out⟩
theorem refRecv_no (d t : ByteArray) (draw : Int) (w : World) (hd : d.size ≤ maxLen) (ht : t.size ≤ maxLen) (h : openErr d.data.toList = 0) (hs : Sec draw) (hl : letOk t.data.toList) (hx : ¬ ((heldS d.data.toList).step + 1 < (letOf t.data.toList).step ∨ (letOf t.data.toList).step % 2 = (heldS d.data.toList).step % 2)) (hr : (keyR (heldS d.data.toList) (letOf t.data.toList) draw.toNat).1 = 0) (ho : ¬ opensL (keyR (heldS d.data.toList) (letOf t.data.toList) draw.toNat).2.1 (letOf t.data.toList).head (letOf t.data.toList).body) :
    Calls Tryz.prog 70 #[.string d, .string t, .int .i64 draw] w fun e w' => e = .returned (.tuple #[.string ⟨#[]⟩, .string ⟨#[]⟩, .int .i64 5]) ∧ Below w.heap.size w w' := by
  obtain ⟨k, hg⟩ := open_good _ h; have hdl := len_list d
  have hk : d.size = k * 32 := by rw [← hdl]; exact hg.len
  have hk2 := hg.k2; have hlv := hg.live; obtain ⟨gl, gk⟩ := good_lawQ hg; have hkl := hg.kept; have hcap := hg.cap; obtain ⟨p1, p2, p3, p4, p5, p6, p7, p8⟩ := letOk_parts hl; have hsn := sec_nat hs; have hsl := gl.step
  have c1 : ∀ w, Calls Tryz.prog 33 #[.string d] w fun e w' => (∃ (a : Option Addr) (n c : Nat), e = .returned (.tuple #[.agg (stCells (heldS d.data.toList) (.slice a n c)), .int .i64 (liveL d.data.toList : Int), .int .i64 0]) ∧ w'.ownsRow w.heap.size 119 3 (.slice a n c) (heldS d.data.toList).kept.length (entsCells (heldS d.data.toList).kept)) ∧ Below w.heap.size w w' := by
    intro w
    refine (refOpen_any d w hd).mono ?_
    rintro e w' ⟨q, hb⟩
    rcases q with ⟨_, q⟩ | ⟨q, _⟩
    · exact ⟨q, hb⟩
    · exact absurd h q
  unfold stCells at c1
  have c2 : ∀ w, Calls Tryz.prog 87 #[.int .i64 draw] w fun e w' => e = .returned (.bool true) ∧ w' = w := fun w => by
    have := refIsSecret_any draw w
    rw [decide_eq_true hs] at this
    exact this
  have c3 : ∀ w, Calls Tryz.prog 114 #[.string t] w fun e w' => e = .returned (.tuple #[.agg #[.int .i64 ((letOf t.data.toList).step : Int), .int .i64 ((letOf t.data.toList).count : Int), .int .i64 ((letOf t.data.toList).prev : Int), .int .i64 ((letOf t.data.toList).pub : Int), .string (str (letOf t.data.toList).head), .string (str (letOf t.data.toList).body)], .bool true]) ∧ Below w.heap.size w w' := fun w => by
    refine (refParse_any t w ht).mono ?_
    rintro e w' ⟨⟨l, he, hq⟩, hb⟩
    rw [decide_eq_true hl, hq hl] at he
    exact ⟨he, hb⟩
  have cT : ∀ (a : Option Addr) (n c : Nat) (w : World), EntsAt w (.slice a n c) (heldS d.data.toList).kept → Calls Tryz.prog 115 #[.agg (stCells (heldS d.data.toList) (.slice a n c)), .agg #[.int .i64 ((letOf t.data.toList).step : Int), .int .i64 ((letOf t.data.toList).count : Int), .int .i64 ((letOf t.data.toList).prev : Int), .int .i64 ((letOf t.data.toList).pub : Int), .string (str (letOf t.data.toList).head), .string (str (letOf t.data.toList).body)], .int .i64 draw] w fun e w' => TakeRef (refTakeR (heldS d.data.toList) (letOf t.data.toList) draw.toNat) w.heap.size w' e ∧ Below w.heap.size w w' := fun a n c w hE => by
    have hse := gl.sec; have hgo := gl.got
    unfold Sec at hse hs
    unfold Pub at p5
    have := refTaken_any (heldS d.data.toList) a n c (letOf t.data.toList) draw.toNat w (by omega) (by omega) (by omega) (by omega) (by omega) (by omega) gk.inn gk.root (by omega) (by omega) (by omega) (by omega) gl.keys.srt gk.kept hE
    rw [hsn] at this
    exact this
  have heq := refTake_eq gl gk hkl (letOf t.data.toList) draw.toNat p1 p2 p3 p4 p5 (by rw [hsn]; exact hs) hx
  have heq2 := heq.2 hr
  obtain ⟨kl, kk, k8, kc, kn⟩ := keyR_law gl gk (by omega) (letOf t.data.toList) draw.toNat p1 p2 p3 p4 p5 (by rw [hsn]; exact hs) hr
  obtain ⟨xl, xk, xn⟩ := cap_law kl kk; have hcx : (capS (keyR (heldS d.data.toList) (letOf t.data.toList) draw.toNat).2.2).cap = (keyR (heldS d.data.toList) (letOf t.data.toList) draw.toNat).2.2.cap := rfl
  have hok2 : StOk (capS (keyR (heldS d.data.toList) (letOf t.data.toList) draw.toNat).2.2) := stOk_of xl xk (by omega)
  have cQ : ∀ (a : Option Addr) (n c : Nat) (w : World), EntsAt w (.slice a n c) (heldS d.data.toList).kept → Calls Tryz.prog 115 #[.agg (stCells (heldS d.data.toList) (.slice a n c)), .agg #[.int .i64 ((letOf t.data.toList).step : Int), .int .i64 ((letOf t.data.toList).count : Int), .int .i64 ((letOf t.data.toList).prev : Int), .int .i64 ((letOf t.data.toList).pub : Int), .string (str (letOf t.data.toList).head), .string (str (letOf t.data.toList).body)], .int .i64 draw] w fun e w' => (∃ (aL : Option Addr) (nL cL : Nat), e = .returned (.tuple #[.string (str (keyR (heldS d.data.toList) (letOf t.data.toList) draw.toNat).2.1), .agg (stCells (capS (keyR (heldS d.data.toList) (letOf t.data.toList) draw.toNat).2.2) (.slice aL nL cL)), .int .i64 0]) ∧ EntsAt w' (.slice aL nL cL) (capS (keyR (heldS d.data.toList) (letOf t.data.toList) draw.toNat).2.2).kept) ∧ Below w.heap.size w w' := fun a n c w hE => by
    refine (cT a n c w hE).mono ?_
    rintro e w' ⟨⟨ky, x, aL, nL, cL, he, hq⟩, hb⟩
    have h0 : (refTakeR (heldS d.data.toList) (letOf t.data.toList) draw.toNat).1 = 0 := by rw [heq.1]; exact hr
    obtain ⟨hky, hxx, hox⟩ := hq h0
    refine ⟨⟨aL, nL, cL, ?_, ?_⟩, hb⟩
    · rw [he, hky, hxx, h0, heq2.1, heq2.2]
    · have := EntsAt.of_own hox
      rw [hxx, heq2.2] at this
      exact this
  have hhd : (str (letOf t.data.toList).head).size = 7 := by rw [str_size]; exact p6
  have hbd1 : 8 ≤ (str (letOf t.data.toList).body).size := by rw [str_size]; exact p7
  have hbd2 : (str (letOf t.data.toList).body).size ≤ 48 := by rw [str_size]; exact p8
  have hky8 : (str (keyR (heldS d.data.toList) (letOf t.data.toList) draw.toNat).2.1).size = 8 := by rw [str_size]; exact k8
  have cu := fun w => refUnseal_no (str (keyR (heldS d.data.toList) (letOf t.data.toList) draw.toNat).2.1) (str (letOf t.data.toList).head) (str (letOf t.data.toList).body) w hky8 hhd hbd1 hbd2 (by rw [str_toList, str_toList, str_toList]; exact ho)
  unfold stCells at cQ
  generalize capS (keyR (heldS d.data.toList) (letOf t.data.toList) draw.toNat).2.2 = x at *
  generalize str (keyR (heldS d.data.toList) (letOf t.data.toList) draw.toNat).2.1 = ky at *
  clear heq heq2 cT hr kl kk k8 kc xl xk hok2 hhd hbd1 hbd2 hky8 hcx kn xn ho
  generalize heldS d.data.toList = ss at *
  generalize letOf t.data.toList = l at *
  have i1 : ¬ (ss.step : Int) + 1 < (l.step : Int) := by omega
  have i2 : (((l.step : Int) + (ss.step : Int)) % 2 == 0) = false := by rw [beq_eq_false_iff_ne]; omega
  clear h hs hl hg gl gk hdl hsn hx p1 p3 p4 p5 p6 p7 p8
  go_enter Tryz.func70, Tryz.ntmps70
  go_upto_region 7 with (first | (go_at_call 33; (with_reducible refine (c1 _).mono ?_); rintro e w1 ⟨⟨aa, nn, cc, rfl, hown⟩, hb1⟩) | (go_at_call 87; (with_reducible refine (c2 _).mono ?_); rintro e w' ⟨rfl, hw⟩; rw [hw]; clear hw w'))
  obtain ⟨ob, eob⟩ : ∃ ob, ob = Obj.cells #[.int .i64 ss.role, .int .i64 ss.step, .int .i64 ss.sent, .int .i64 ss.got, .int .i64 ss.prev, .int .i64 ss.skip, .int .i64 ss.cap, .string (str ss.root), .string (str ss.out), .string (str ss.inn), .int .i64 ss.secret, .int .i64 ss.peer, .slice aa nn cc] 63 := ⟨_, rfl⟩
  rw [← eob]; have hB := heap_alloc_new w1 ob; have hE : EntsAt (w1.alloc ob) (.slice aa nn cc) ss.kept := EntsAt.of_own (hown.alloc _); have hW : Below w.heap.size w (w1.alloc ob) := hb1.alloc hb1.size _
  have hlt : w1.heap.size < (w1.alloc ob).heap.size := by simp
  generalize (w1.alloc ob) = wa at hB hE hW hlt ⊢
  subst eob
  generalize w1.heap.size = B at *
  have HBa := hid hB; have HEa := hid hE; have HWa := hid hW; clear hB hE hW hown hb1 c1 c2
  go_upto_region 10 with (first | (go_at_call 114; (with_reducible refine (c3 _).mono ?_); rintro e w2 ⟨rfl, hb2⟩))
  have hsz2 := hb2.size
  obtain ⟨ob, eob⟩ : ∃ ob, ob = Obj.cells #[.int .i64 l.step, .int .i64 l.count, .int .i64 l.prev, .int .i64 l.pub, .string (str l.head), .string (str l.body)] 145 := ⟨_, rfl⟩
  rw [← eob]; have hL := heap_alloc_new w2 ob
  have hB : (w2.alloc ob).heap[B]? = some (.cells #[.int .i64 ss.role, .int .i64 ss.step, .int .i64 ss.sent, .int .i64 ss.got, .int .i64 ss.prev, .int .i64 ss.skip, .int .i64 ss.cap, .string (str ss.root), .string (str ss.out), .string (str ss.inn), .int .i64 ss.secret, .int .i64 ss.peer, .slice aa nn cc] 63) := (Below.heap_alloc _ _ _ (by omega)).trans ((hb2.block B hlt).trans HBa.out)
  have hE : EntsAt (w2.alloc ob) (.slice aa nn cc) ss.kept := (HEa.out.next hb2).next ((Below.refl _ _).alloc (Nat.le_refl _) _); have hW : Below w.heap.size w (w2.alloc ob) := (below_tr HWa.out hb2).alloc (below_tr HWa.out hb2).size _
  have hltL : w2.heap.size < (w2.alloc ob).heap.size := by simp
  have hltB : B < w2.heap.size := by omega
  generalize (w2.alloc ob) = wb at hB hL hE hW hltL ⊢
  subst eob
  generalize w2.heap.size = L at *
  have HB := hid hB; have HL := hid hL; have HE := hid hE; have HW := hid hW; obtain ⟨k0, k1, k2, k3, k4, k5, k6, k7, k8, k9, k10, k11, k12⟩ := cells13 hB; obtain ⟨q0, q1, q2, q3, q4, q5⟩ := cells6 hL; clear hB hL hE hW hb2 hsz2 HBa HEa HWa c3 hlt
  go_upto_region 13 with (first | (go_at_call 115; (with_reducible refine (cQ _ _ _ _ HE.out).mono ?_); rintro e w3 ⟨⟨aL, nL, cL, rfl, hE3⟩, hb3⟩))
  have hsz3 := hb3.size
  obtain ⟨ob, eob⟩ : ∃ ob, ob = Obj.cells #[.int .i64 x.role, .int .i64 x.step, .int .i64 x.sent, .int .i64 x.got, .int .i64 x.prev, .int .i64 x.skip, .int .i64 x.cap, .string (str x.root), .string (str x.out), .string (str x.inn), .int .i64 x.secret, .int .i64 x.peer, .slice aL nL cL] 63 := ⟨_, rfl⟩
  rw [← eob]; have hX := heap_alloc_new w3 ob
  have hL4 : (w3.alloc ob).heap[L]? = some (.cells #[.int .i64 l.step, .int .i64 l.count, .int .i64 l.prev, .int .i64 l.pub, .string (str l.head), .string (str l.body)] 145) := (Below.heap_alloc _ _ _ (by omega)).trans ((hb3.block L hltL).trans HL.out)
  have hE4 : EntsAt (w3.alloc ob) (.slice aL nL cL) x.kept := hE3.next ((Below.refl _ _).alloc (Nat.le_refl _) _); have hW4 : Below w.heap.size w (w3.alloc ob) := (below_tr HW.out hb3).alloc (below_tr HW.out hb3).size _
  have hlt4 : w3.heap.size < (w3.alloc ob).heap.size := by simp
  generalize (w3.alloc ob) = wz at hX hL4 hE4 hW4 hlt4 ⊢
  subst eob
  generalize w3.heap.size = B3 at *
  have HX := hid hX; have HE4 := hid hE4; have HZ := hid hW4; clear k0 k1 k2 k3 k4 k5 k6 k7 k8 k9 k10 k11 k12 q0 q1 q2 q3 q4 q5; have z4 : wz.cell? ⟨L, 4, none⟩ = some (.string (str l.head)) := cell_of_row wz _ 4 _ _ _ hL4; have z5 : wz.cell? ⟨L, 5, none⟩ = some (.string (str l.body)) := cell_of_row wz _ 5 _ _ _ hL4; clear hX hL4 hE4 hW4 hE3 hb3 HB HL HE HW cQ
  go_wp2_with (first | (go_at_call 48; (with_reducible refine (cu _).mono ?_); rintro e w5 ⟨rfl, hb5⟩))
  go_ret3
  exact ⟨rfl, below_tr HZ.out hb5⟩
theorem refRecv_yes (d t : ByteArray) (draw : Int) (w : World) (hd : d.size ≤ maxLen) (ht : t.size ≤ maxLen) (h : openErr d.data.toList = 0) (hs : Sec draw) (hl : letOk t.data.toList) (hx : ¬ ((heldS d.data.toList).step + 1 < (letOf t.data.toList).step ∨ (letOf t.data.toList).step % 2 = (heldS d.data.toList).step % 2)) (hr : (keyR (heldS d.data.toList) (letOf t.data.toList) draw.toNat).1 = 0) (ho : opensL (keyR (heldS d.data.toList) (letOf t.data.toList) draw.toNat).2.1 (letOf t.data.toList).head (letOf t.data.toList).body) :
    Calls Tryz.prog 70 #[.string d, .string t, .int .i64 draw] w fun e w' => e = .returned (.tuple #[.string (str (veil (keyR (heldS d.data.toList) (letOf t.data.toList) draw.toNat).2.1 ((letOf t.data.toList).body.take ((letOf t.data.toList).body.length - 8)))), .string (str (packL (capS (keyR (heldS d.data.toList) (letOf t.data.toList) draw.toNat).2.2) (1 - liveL d.data.toList) d.data.toList.length)), .int .i64 0]) ∧ Below w.heap.size w w' := by
  obtain ⟨k, hg⟩ := open_good _ h; have hdl := len_list d
  have hk : d.size = k * 32 := by rw [← hdl]; exact hg.len
  have hk2 := hg.k2; have hlv := hg.live; obtain ⟨gl, gk⟩ := good_lawQ hg; have hkl := hg.kept; have hcap := hg.cap; obtain ⟨p1, p2, p3, p4, p5, p6, p7, p8⟩ := letOk_parts hl; have hsn := sec_nat hs; have hsl := gl.step
  have c1 : ∀ w, Calls Tryz.prog 33 #[.string d] w fun e w' => (∃ (a : Option Addr) (n c : Nat), e = .returned (.tuple #[.agg (stCells (heldS d.data.toList) (.slice a n c)), .int .i64 (liveL d.data.toList : Int), .int .i64 0]) ∧ w'.ownsRow w.heap.size 119 3 (.slice a n c) (heldS d.data.toList).kept.length (entsCells (heldS d.data.toList).kept)) ∧ Below w.heap.size w w' := by
    intro w
    refine (refOpen_any d w hd).mono ?_
    rintro e w' ⟨q, hb⟩
    rcases q with ⟨_, q⟩ | ⟨q, _⟩
    · exact ⟨q, hb⟩
    · exact absurd h q
  unfold stCells at c1
  have c2 : ∀ w, Calls Tryz.prog 87 #[.int .i64 draw] w fun e w' => e = .returned (.bool true) ∧ w' = w := fun w => by
    have := refIsSecret_any draw w
    rw [decide_eq_true hs] at this
    exact this
  have c3 : ∀ w, Calls Tryz.prog 114 #[.string t] w fun e w' => e = .returned (.tuple #[.agg #[.int .i64 ((letOf t.data.toList).step : Int), .int .i64 ((letOf t.data.toList).count : Int), .int .i64 ((letOf t.data.toList).prev : Int), .int .i64 ((letOf t.data.toList).pub : Int), .string (str (letOf t.data.toList).head), .string (str (letOf t.data.toList).body)], .bool true]) ∧ Below w.heap.size w w' := fun w => by
    refine (refParse_any t w ht).mono ?_
    rintro e w' ⟨⟨l, he, hq⟩, hb⟩
    rw [decide_eq_true hl, hq hl] at he
    exact ⟨he, hb⟩
  have cT : ∀ (a : Option Addr) (n c : Nat) (w : World), EntsAt w (.slice a n c) (heldS d.data.toList).kept → Calls Tryz.prog 115 #[.agg (stCells (heldS d.data.toList) (.slice a n c)), .agg #[.int .i64 ((letOf t.data.toList).step : Int), .int .i64 ((letOf t.data.toList).count : Int), .int .i64 ((letOf t.data.toList).prev : Int), .int .i64 ((letOf t.data.toList).pub : Int), .string (str (letOf t.data.toList).head), .string (str (letOf t.data.toList).body)], .int .i64 draw] w fun e w' => TakeRef (refTakeR (heldS d.data.toList) (letOf t.data.toList) draw.toNat) w.heap.size w' e ∧ Below w.heap.size w w' := fun a n c w hE => by
    have hse := gl.sec; have hgo := gl.got
    unfold Sec at hse hs
    unfold Pub at p5
    have := refTaken_any (heldS d.data.toList) a n c (letOf t.data.toList) draw.toNat w (by omega) (by omega) (by omega) (by omega) (by omega) (by omega) gk.inn gk.root (by omega) (by omega) (by omega) (by omega) gl.keys.srt gk.kept hE
    rw [hsn] at this
    exact this
  have heq := refTake_eq gl gk hkl (letOf t.data.toList) draw.toNat p1 p2 p3 p4 p5 (by rw [hsn]; exact hs) hx
  have heq2 := heq.2 hr
  obtain ⟨kl, kk, k8, kc, kn⟩ := keyR_law gl gk (by omega) (letOf t.data.toList) draw.toNat p1 p2 p3 p4 p5 (by rw [hsn]; exact hs) hr
  obtain ⟨xl, xk, xn⟩ := cap_law kl kk; have hcx : (capS (keyR (heldS d.data.toList) (letOf t.data.toList) draw.toNat).2.2).cap = (keyR (heldS d.data.toList) (letOf t.data.toList) draw.toNat).2.2.cap := rfl
  have hok2 : StOk (capS (keyR (heldS d.data.toList) (letOf t.data.toList) draw.toNat).2.2) := stOk_of xl xk (by omega)
  have cQ : ∀ (a : Option Addr) (n c : Nat) (w : World), EntsAt w (.slice a n c) (heldS d.data.toList).kept → Calls Tryz.prog 115 #[.agg (stCells (heldS d.data.toList) (.slice a n c)), .agg #[.int .i64 ((letOf t.data.toList).step : Int), .int .i64 ((letOf t.data.toList).count : Int), .int .i64 ((letOf t.data.toList).prev : Int), .int .i64 ((letOf t.data.toList).pub : Int), .string (str (letOf t.data.toList).head), .string (str (letOf t.data.toList).body)], .int .i64 draw] w fun e w' => (∃ (aL : Option Addr) (nL cL : Nat), e = .returned (.tuple #[.string (str (keyR (heldS d.data.toList) (letOf t.data.toList) draw.toNat).2.1), .agg (stCells (capS (keyR (heldS d.data.toList) (letOf t.data.toList) draw.toNat).2.2) (.slice aL nL cL)), .int .i64 0]) ∧ EntsAt w' (.slice aL nL cL) (capS (keyR (heldS d.data.toList) (letOf t.data.toList) draw.toNat).2.2).kept) ∧ Below w.heap.size w w' := fun a n c w hE => by
    refine (cT a n c w hE).mono ?_
    rintro e w' ⟨⟨ky, x, aL, nL, cL, he, hq⟩, hb⟩
    have h0 : (refTakeR (heldS d.data.toList) (letOf t.data.toList) draw.toNat).1 = 0 := by rw [heq.1]; exact hr
    obtain ⟨hky, hxx, hox⟩ := hq h0
    refine ⟨⟨aL, nL, cL, ?_, ?_⟩, hb⟩
    · rw [he, hky, hxx, h0, heq2.1, heq2.2]
    · have := EntsAt.of_own hox
      rw [hxx, heq2.2] at this
      exact this
  have hhd : (str (letOf t.data.toList).head).size = 7 := by rw [str_size]; exact p6
  have hbd1 : 8 ≤ (str (letOf t.data.toList).body).size := by rw [str_size]; exact p7
  have hbd2 : (str (letOf t.data.toList).body).size ≤ 48 := by rw [str_size]; exact p8
  have hky8 : (str (keyR (heldS d.data.toList) (letOf t.data.toList) draw.toNat).2.1).size = 8 := by rw [str_size]; exact k8
  have cu := fun w => refUnseal_yes (str (keyR (heldS d.data.toList) (letOf t.data.toList) draw.toNat).2.1) (str (letOf t.data.toList).head) (str (letOf t.data.toList).body) w hky8 hhd hbd1 hbd2 (by rw [str_toList, str_toList, str_toList]; exact ho)
  rw [str_toList, str_toList, str_size] at cu
  have cp := fun a n c w hv => pack_any (capS (keyR (heldS d.data.toList) (letOf t.data.toList) draw.toNat).2.2) (.slice a n c) (1 - liveL d.data.toList) (k * 32) w hok2 hv (by omega) (by omega)
  have clv : ((1 - liveL d.data.toList : Nat) : Int) = 1 - (liveL d.data.toList : Int) := by omega
  have ck : ((k * 32 : Nat) : Int) = (k : Int) * 32 := by omega
  rw [clv, ck] at cp
  unfold stCells at cp
  rw [hdl, hk]
  generalize (str (veil (keyR (heldS d.data.toList) (letOf t.data.toList) draw.toNat).2.1 ((letOf t.data.toList).body.take ((letOf t.data.toList).body.length - 8)))) = vt at *
  generalize (str (packL (capS (keyR (heldS d.data.toList) (letOf t.data.toList) draw.toNat).2.2) (1 - liveL d.data.toList) (k * 32))) = pt at *
  clear clv ck
  generalize liveL d.data.toList = lv at *
  unfold stCells at cQ
  generalize capS (keyR (heldS d.data.toList) (letOf t.data.toList) draw.toNat).2.2 = x at *
  generalize str (keyR (heldS d.data.toList) (letOf t.data.toList) draw.toNat).2.1 = ky at *
  clear heq heq2 cT hr kl kk k8 kc xl xk hok2 hhd hbd1 hbd2 hky8 hcx kn xn ho
  generalize heldS d.data.toList = ss at *
  generalize letOf t.data.toList = l at *
  have i1 : ¬ (ss.step : Int) + 1 < (l.step : Int) := by omega
  have i2 : (((l.step : Int) + (ss.step : Int)) % 2 == 0) = false := by rw [beq_eq_false_iff_ne]; omega
  clear h hs hl hg gl gk hdl hsn hx p1 p3 p4 p5 p6 p7 p8
  go_enter Tryz.func70, Tryz.ntmps70
  go_upto_region 7 with (first | (go_at_call 33; (with_reducible refine (c1 _).mono ?_); rintro e w1 ⟨⟨aa, nn, cc, rfl, hown⟩, hb1⟩) | (go_at_call 87; (with_reducible refine (c2 _).mono ?_); rintro e w' ⟨rfl, hw⟩; rw [hw]; clear hw w'))
  obtain ⟨ob, eob⟩ : ∃ ob, ob = Obj.cells #[.int .i64 ss.role, .int .i64 ss.step, .int .i64 ss.sent, .int .i64 ss.got, .int .i64 ss.prev, .int .i64 ss.skip, .int .i64 ss.cap, .string (str ss.root), .string (str ss.out), .string (str ss.inn), .int .i64 ss.secret, .int .i64 ss.peer, .slice aa nn cc] 63 := ⟨_, rfl⟩
  rw [← eob]; have hB := heap_alloc_new w1 ob; have hE : EntsAt (w1.alloc ob) (.slice aa nn cc) ss.kept := EntsAt.of_own (hown.alloc _); have hW : Below w.heap.size w (w1.alloc ob) := hb1.alloc hb1.size _
  have hlt : w1.heap.size < (w1.alloc ob).heap.size := by simp
  generalize (w1.alloc ob) = wa at hB hE hW hlt ⊢
  subst eob
  generalize w1.heap.size = B at *
  have HBa := hid hB; have HEa := hid hE; have HWa := hid hW; clear hB hE hW hown hb1 c1 c2
  go_upto_region 10 with (first | (go_at_call 114; (with_reducible refine (c3 _).mono ?_); rintro e w2 ⟨rfl, hb2⟩))
  have hsz2 := hb2.size
  obtain ⟨ob, eob⟩ : ∃ ob, ob = Obj.cells #[.int .i64 l.step, .int .i64 l.count, .int .i64 l.prev, .int .i64 l.pub, .string (str l.head), .string (str l.body)] 145 := ⟨_, rfl⟩
  rw [← eob]; have hL := heap_alloc_new w2 ob
  have hB : (w2.alloc ob).heap[B]? = some (.cells #[.int .i64 ss.role, .int .i64 ss.step, .int .i64 ss.sent, .int .i64 ss.got, .int .i64 ss.prev, .int .i64 ss.skip, .int .i64 ss.cap, .string (str ss.root), .string (str ss.out), .string (str ss.inn), .int .i64 ss.secret, .int .i64 ss.peer, .slice aa nn cc] 63) := (Below.heap_alloc _ _ _ (by omega)).trans ((hb2.block B hlt).trans HBa.out)
  have hE : EntsAt (w2.alloc ob) (.slice aa nn cc) ss.kept := (HEa.out.next hb2).next ((Below.refl _ _).alloc (Nat.le_refl _) _); have hW : Below w.heap.size w (w2.alloc ob) := (below_tr HWa.out hb2).alloc (below_tr HWa.out hb2).size _
  have hltL : w2.heap.size < (w2.alloc ob).heap.size := by simp
  have hltB : B < w2.heap.size := by omega
  generalize (w2.alloc ob) = wb at hB hL hE hW hltL ⊢
  subst eob
  generalize w2.heap.size = L at *
  have HB := hid hB; have HL := hid hL; have HE := hid hE; have HW := hid hW; obtain ⟨k0, k1, k2, k3, k4, k5, k6, k7, k8, k9, k10, k11, k12⟩ := cells13 hB; obtain ⟨q0, q1, q2, q3, q4, q5⟩ := cells6 hL; clear hB hL hE hW hb2 hsz2 HBa HEa HWa c3 hlt
  go_upto_region 13 with (first | (go_at_call 115; (with_reducible refine (cQ _ _ _ _ HE.out).mono ?_); rintro e w3 ⟨⟨aL, nL, cL, rfl, hE3⟩, hb3⟩))
  have hsz3 := hb3.size
  obtain ⟨ob, eob⟩ : ∃ ob, ob = Obj.cells #[.int .i64 x.role, .int .i64 x.step, .int .i64 x.sent, .int .i64 x.got, .int .i64 x.prev, .int .i64 x.skip, .int .i64 x.cap, .string (str x.root), .string (str x.out), .string (str x.inn), .int .i64 x.secret, .int .i64 x.peer, .slice aL nL cL] 63 := ⟨_, rfl⟩
  rw [← eob]; have hX := heap_alloc_new w3 ob
  have hL4 : (w3.alloc ob).heap[L]? = some (.cells #[.int .i64 l.step, .int .i64 l.count, .int .i64 l.prev, .int .i64 l.pub, .string (str l.head), .string (str l.body)] 145) := (Below.heap_alloc _ _ _ (by omega)).trans ((hb3.block L hltL).trans HL.out)
  have hE4 : EntsAt (w3.alloc ob) (.slice aL nL cL) x.kept := hE3.next ((Below.refl _ _).alloc (Nat.le_refl _) _); have hW4 : Below w.heap.size w (w3.alloc ob) := (below_tr HW.out hb3).alloc (below_tr HW.out hb3).size _
  have hlt4 : w3.heap.size < (w3.alloc ob).heap.size := by simp
  generalize (w3.alloc ob) = wz at hX hL4 hE4 hW4 hlt4 ⊢
  subst eob
  generalize w3.heap.size = B3 at *
  have HX := hid hX; have HE4 := hid hE4; have HZ := hid hW4; clear k0 k1 k2 k3 k4 k5 k6 k7 k8 k9 k10 k11 k12 q0 q1 q2 q3 q4 q5; have z4 : wz.cell? ⟨L, 4, none⟩ = some (.string (str l.head)) := cell_of_row wz _ 4 _ _ _ hL4; have z5 : wz.cell? ⟨L, 5, none⟩ = some (.string (str l.body)) := cell_of_row wz _ 5 _ _ _ hL4; clear hX hL4 hE4 hW4 hE3 hb3 HB HL HE HW cQ
  go_upto_region 18 with (first | (go_at_call 48; (with_reducible refine (cu _).mono ?_); rintro e w5 ⟨rfl, hb5⟩))
  have hX5 := (hb5.block B3 hlt4).trans HX.out; have HE5 : Hid (EntsAt w5 (.slice aL nL cL) x.kept) := HE4.out.next hb5; have HZ5 : Hid (Below w.heap.size w w5) := below_tr HZ.out hb5; obtain ⟨u0, u1, u2, u3, u4, u5, u6, u7, u8, u9, u10, u11, u12⟩ := cells13 hX5; clear hX5 hb5 HX HE4 HZ z4 z5 cu
  go_wp2_with (first | (go_at_call 98; (with_reducible refine (cp _ _ _ _ HE5.out).mono ?_); rintro e w6 ⟨rfl, hb6⟩))
  go_ret3
  exact ⟨rfl, below_tr HZ5.out hb6⟩
theorem refReceive_any (d t : ByteArray) (draw : Int) (w : World) (hd : d.size ≤ maxLen) (ht : t.size ≤ maxLen) :
    Calls Tryz.prog 70 #[.string d, .string t, .int .i64 draw] w fun e w' => e = .returned (.tuple #[.string (str (recvTxt d.data.toList t.data.toList draw)), .string (str (recvTo d.data.toList t.data.toList draw)), .int .i64 (recvErr d.data.toList t.data.toList draw)]) ∧ Below w.heap.size w w' := by
  have hbad : ∀ er, recvErr d.data.toList t.data.toList draw = er → er ≠ 0 → (Calls Tryz.prog 70 #[.string d, .string t, .int .i64 draw] w fun e w' => e = .returned (.tuple #[.string ⟨#[]⟩, .string ⟨#[]⟩, .int .i64 er]) ∧ Below w.heap.size w w') → Calls Tryz.prog 70 #[.string d, .string t, .int .i64 draw] w fun e w' => e = .returned (.tuple #[.string (str (recvTxt d.data.toList t.data.toList draw)), .string (str (recvTo d.data.toList t.data.toList draw)), .int .i64 (recvErr d.data.toList t.data.toList draw)]) ∧ Below w.heap.size w w' := by
    intro er he hne c
    have h1 : recvTxt d.data.toList t.data.toList draw = [] := by rw [recvTxt, if_neg (by rw [he]; exact hne)]
    have h2 : recvTo d.data.toList t.data.toList draw = [] := by rw [recvTo, if_neg (by rw [he]; exact hne)]
    rw [h1, h2, he]; exact c
  by_cases h : openErr d.data.toList = 0
  · by_cases hs : Sec draw
    · by_cases hl : letOk t.data.toList
      · have e0 : recvErr d.data.toList t.data.toList draw = (recvR (heldS d.data.toList) (letOf t.data.toList) draw.toNat).1 := by rw [recvErr, if_pos h, if_pos hs, if_pos hl]
        by_cases hx : (heldS d.data.toList).step + 1 < (letOf t.data.toList).step ∨ (letOf t.data.toList).step % 2 = (heldS d.data.toList).step % 2
        · have k15 : (keyR (heldS d.data.toList) (letOf t.data.toList) draw.toNat).1 = 15 := by rw [keyR, if_pos hx]
          have r15 : (recvR (heldS d.data.toList) (letOf t.data.toList) draw.toNat).1 = 15 := by rw [recvR, if_neg (by rw [k15]; decide), k15]
          refine hbad 15 (by rw [e0, r15]) (by decide) ?_
          by_cases hy : (heldS d.data.toList).step + 1 < (letOf t.data.toList).step
          · exact refRecv_far d t draw w hd ht h hs hl hy
          · exact refRecv_same d t draw w hd ht h hs hl ⟨hy, by rcases hx with q | q; exact absurd q hy; exact q⟩
        · by_cases hr : (keyR (heldS d.data.toList) (letOf t.data.toList) draw.toNat).1 = 0
          · by_cases ho : opensL (keyR (heldS d.data.toList) (letOf t.data.toList) draw.toNat).2.1 (letOf t.data.toList).head (letOf t.data.toList).body
            · have er : recvR (heldS d.data.toList) (letOf t.data.toList) draw.toNat = (0, veil (keyR (heldS d.data.toList) (letOf t.data.toList) draw.toNat).2.1 ((letOf t.data.toList).body.take ((letOf t.data.toList).body.length - 8)), capS (keyR (heldS d.data.toList) (letOf t.data.toList) draw.toNat).2.2) := by rw [recvR, if_pos hr, if_pos ho]
              have e1 : recvErr d.data.toList t.data.toList draw = 0 := by rw [e0, er]
              have h1 : recvTxt d.data.toList t.data.toList draw = veil (keyR (heldS d.data.toList) (letOf t.data.toList) draw.toNat).2.1 ((letOf t.data.toList).body.take ((letOf t.data.toList).body.length - 8)) := by rw [recvTxt, if_pos e1, er]
              have h2 : recvTo d.data.toList t.data.toList draw = packL (capS (keyR (heldS d.data.toList) (letOf t.data.toList) draw.toNat).2.2) (1 - liveL d.data.toList) d.data.toList.length := by rw [recvTo, if_pos e1, recvS, er]
              rw [h1, h2, e1]; exact refRecv_yes d t draw w hd ht h hs hl hx hr ho
            · have er : (recvR (heldS d.data.toList) (letOf t.data.toList) draw.toNat).1 = 5 := by rw [recvR, if_pos hr, if_neg ho]
              exact hbad 5 (by rw [e0, er]) (by decide) (refRecv_no d t draw w hd ht h hs hl hx hr ho)
          · have er : (recvR (heldS d.data.toList) (letOf t.data.toList) draw.toNat).1 = (keyR (heldS d.data.toList) (letOf t.data.toList) draw.toNat).1 := by rw [recvR, if_neg hr]
            exact hbad _ (by rw [e0, er]) hr (refRecv_ref d t draw w hd ht h hs hl hx hr)
      · exact hbad 4 (by rw [recvErr, if_pos h, if_pos hs, if_neg hl]) (by decide) (refRecv_frame d t draw w hd ht h hs hl)
    · exact hbad 3 (by rw [recvErr, if_pos h, if_neg hs]) (by decide) (refRecv_sec d t draw w hd h hs)
  · exact hbad _ (by rw [recvErr, if_neg h]) h (refRecv_bad d t draw w hd h)
end Go.Proofs.YtabpkohcimiceabGreat
