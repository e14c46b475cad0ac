import Derived.Test.YtabpkohcimiceabGreatSeen
import Derived.Test.YtabpkohcimiceabGreatBoxB
import Derived.Test.YtabpkohcimiceabGreatPack
import Derived.Test.YtabpkohcimiceabGreatTakeA
import Derived.WalkKit
import Derived.WalkSpells
import Derived.WalkLawsBesides
import Derived.OwnWalk
import Derived.Laws.ResultCell
import Derived.Laws.Rows
import Derived.RegionTactic
import Derived.Deep.RegionHeld3
import Derived.Deep.DeepMust
import Derived.Deep.DeepCutAuto
import Derived.BigRegion
namespace Go.Proofs.YtabpkohcimiceabGreat
open Go.RowKit
set_option linter.unusedVariables false
set_option linter.unusedSimpArgs false

/-! ### pawlref.Parse -/

set_option maxRecDepth 100000 in
set_option maxHeartbeats 1000000 in
theorem refParse_no (t : ByteArray) (w : World) (ht : t.size ≤ maxLen) (h : ¬ (15 ≤ t.size ∧ t.size ≤ 55)) :
    Calls Tryz.prog 114 #[.string t] w fun e w' => e = .returned (.tuple #[.agg #[.int .i64 0, .int .i64 0, .int .i64 0, .int .i64 0, .string ⟨#[]⟩, .string ⟨#[]⟩], .bool false]) ∧ Below w.heap.size w w' := by
  unfold maxLen at ht
  by_cases h1 : (t.size : Int) < 15
  · clear h
    go_enter Tryz.func114, Tryz.ntmps114
    go_wp2
    (try simp only [Exit.inBlock, Exit.then])
    refine bodyPost_ret (v := .tuple #[.agg #[.int .i64 0, .int .i64 0, .int .i64 0, .int .i64 0, .string ⟨#[]⟩, .string ⟨#[]⟩], .bool false]) ?_ ?_ ?_
    · rw [results_cell_tmp (fn := Tryz.f114) rfl]; simp [go_sem]
    · rfl
    · refine ⟨rfl, ?_⟩
      repeat (first | exact Below.refl _ _ | (with_reducible refine Below.setCell ?_ (by exact Nat.le_refl _) _) | (refine Below.alloc ?_ (by first | exact Nat.le_refl _ | (simp; done) | (simp; omega)) _))
  · have h2 : (55 : Int) < (t.size : Int) := by omega
    clear h
    go_enter Tryz.func114, Tryz.ntmps114
    go_wp2
    (try simp only [Exit.inBlock, Exit.then])
    refine bodyPost_ret (v := .tuple #[.agg #[.int .i64 0, .int .i64 0, .int .i64 0, .int .i64 0, .string ⟨#[]⟩, .string ⟨#[]⟩], .bool false]) ?_ ?_ ?_
    · rw [results_cell_tmp (fn := Tryz.f114) rfl]; simp [go_sem]
    · rfl
    · refine ⟨rfl, ?_⟩
      repeat (first | exact Below.refl _ _ | (with_reducible refine Below.setCell ?_ (by exact Nat.le_refl _) _) | (refine Below.alloc ?_ (by first | exact Nat.le_refl _ | (simp; done) | (simp; omega)) _))
def rightR (l : LetM) : Prop := 1 ≤ l.step ∧ l.step ≤ 29 ∧ l.count ≤ 49 ∧ l.prev ≤ 50 ∧ Pub (l.pub : Int)
instance (l : LetM) : Decidable (rightR l) := inferInstanceAs (Decidable (_ ∧ _))

set_option maxRecDepth 100000 in
set_option maxHeartbeats 8000000 in
theorem refParse_yes (t : ByteArray) (w : World) (h1 : 15 ≤ t.size) (h2 : t.size ≤ 55) :
    Calls Tryz.prog 114 #[.string t] w fun e w' => e = .returned (.tuple #[.agg #[.int .i64 ((letOf t.data.toList).step : Int), .int .i64 ((letOf t.data.toList).count : Int), .int .i64 ((letOf t.data.toList).prev : Int), .int .i64 ((letOf t.data.toList).pub : Int), .string (str (letOf t.data.toList).head), .string (str (letOf t.data.toList).body)], .bool (decide (rightR (letOf t.data.toList)))]) ∧ Below w.heap.size w w' := by
  have i1 : ¬ (t.size : Int) < 15 := by omega
  have i2 : ¬ (55 : Int) < (t.size : Int) := by omega
  have n0 : 0 < t.size := by omega
  have n1 : 1 < t.size := by omega
  have n2 : 2 < t.size := by omega
  have j0 : (0 : Int) < (t.size : Int) := by omega
  have j1 : (1 : Int) < (t.size : Int) := by omega
  have j2 : (2 : Int) < (t.size : Int) := by omega
  have j7 : (7 : Int) ≤ (t.size : Int) := by omega
  have m7 : 7 ≤ t.size := by omega
  have b0 := t[0].toNat_lt
  have b1 := t[1].toNat_lt
  have b2 := t[2].toNat_lt
  have g0 : IntKind.i64.wrap (t[0].toNat : Int) = (t[0].toNat : Int) := wrap_i64 _ (by omega) (by omega)
  have g1 : IntKind.i64.wrap (t[1].toNat : Int) = (t[1].toNat : Int) := wrap_i64 _ (by omega) (by omega)
  have g2 : IntKind.i64.wrap (t[2].toNat : Int) = (t[2].toNat : Int) := wrap_i64 _ (by omega) (by omega)
  have e0 : (letOf t.data.toList).step = t[0].toNat := by
    show (t.data.toList.getD 0 0).toNat = _
    rw [getD_at t 0 n0]
  have e1 : (letOf t.data.toList).count = t[1].toNat := by
    show (t.data.toList.getD 1 0).toNat = _
    rw [getD_at t 1 n1]
  have e2 : (letOf t.data.toList).prev = t[2].toNat := by
    show (t.data.toList.getD 2 0).toNat = _
    rw [getD_at t 2 n2]
  have e4 : str (letOf t.data.toList).head = t.extract 0 7 := by
    rw [ext_sub]; rfl
  have htl := len_list t
  have e5 : str (letOf t.data.toList).body = t.extract 7 t.size := by
    rw [ext_sub, List.take_of_length_le (by rw [List.length_drop, htl]; omega)]; rfl
  have cv : ∀ w, Calls Tryz.prog 140 #[.string (t.extract 3 7)] w fun e w' => e = .returned (.int .i64 ((letOf t.data.toList).pub : Int)) ∧ w' = w := fun w => by
    have := value_any (t.extract 3 7) w (by rw [ByteArray.size_extract]; unfold maxLen; omega)
    rw [ext_sub, str_toList, wn_take _ 4 (Nat.le_refl _)] at this
    rw [ext_sub]
    exact this
  generalize letOf t.data.toList = l at *
  clear htl
  have HE : Hid (l.step = t[0].toNat ∧ l.count = t[1].toNat ∧ l.prev = t[2].toNat ∧ str l.head = t.extract 0 7 ∧ str l.body = t.extract 7 t.size) := ⟨e0, e1, e2, e4, e5⟩
  clear e0 e1 e2 e4 e5
  go_enter Tryz.func114, Tryz.ntmps114
  go_upto_region 4 with fail
  clear i1 i2 h2
  go_cut [] (fun wx => wx.heap[w.heap.size + 1]? = some (.cells #[.int .i64 (l.step : Int), .int .i64 (l.count : Int), .int .i64 (l.prev : Int), .int .i64 (l.pub : Int), .string (str l.head), .string (str l.body)] 145) ∧ wx.heap[w.heap.size]? = some (.cells #[.int .i64 0, .int .i64 0, .int .i64 0, .int .i64 0, .string ⟨#[]⟩, .string ⟨#[]⟩] 145) ∧ Below w.heap.size w wx)
  case first =>
    go_region_held3 (fun w' => True) (trivial) (first | (go_at_call 140; go_must (with_reducible refine (cv _).mono ?_); rintro e w' ⟨rfl, hw⟩; rw [hw]; clear hw w'))
    all_goals (go_wp2_with fail)
    all_goals go_meet
    all_goals (
      obtain ⟨e0, e1, e2, e4, e5⟩ := HE.out
      rw [e0, e1, e2, e4, e5]
      (try simp only [g0, g1, g2])
      refine ⟨?_, ?_, ?_⟩
      · have := heap_alloc_new (w.alloc (.cells #[.int .i64 0, .int .i64 0, .int .i64 0, .int .i64 0, .string ⟨#[]⟩, .string ⟨#[]⟩] 145)) (.cells #[.int .i64 (t[0].toNat : Int), .int .i64 (t[1].toNat : Int), .int .i64 (t[2].toNat : Int), .int .i64 (l.pub : Int), .string (t.extract 0 7), .string (t.extract 7 t.size)] 145)
        have e : (w.alloc (.cells #[.int .i64 0, .int .i64 0, .int .i64 0, .int .i64 0, .string ⟨#[]⟩, .string ⟨#[]⟩] 145)).heap.size = w.heap.size + 1 := by simp
        rw [e] at this
        exact this
      · exact (Below.heap_alloc _ _ _ (by simp)).trans (heap_alloc_new w _)
      · repeat (first | exact Below.refl _ _ | apply Below.drew | (refine Below.alloc ?_ (by first | exact Nat.le_refl _ | (simp; done) | (simp; omega)) _)))
  case rest =>
    obtain ⟨hX, hR, hW⟩ := hcut
    have HW : Hid (Below w.heap.size w wc) := hW
    have k0 : wc.cell? ⟨w.heap.size + 1, 0, none⟩ = some (.int .i64 (l.step : Int)) := cell_of_row wc _ 0 _ _ _ hX
    have k1 : wc.cell? ⟨w.heap.size + 1, 1, none⟩ = some (.int .i64 (l.count : Int)) := cell_of_row wc _ 1 _ _ _ hX
    have k2 : wc.cell? ⟨w.heap.size + 1, 2, none⟩ = some (.int .i64 (l.prev : Int)) := cell_of_row wc _ 2 _ _ _ hX
    have k3 : wc.cell? ⟨w.heap.size + 1, 3, none⟩ = some (.int .i64 (l.pub : Int)) := cell_of_row wc _ 3 _ _ _ hX
    have k4 : wc.cell? ⟨w.heap.size + 1, 4, none⟩ = some (.string (str l.head)) := cell_of_row wc _ 4 _ _ _ hX
    have k5 : wc.cell? ⟨w.heap.size + 1, 5, none⟩ = some (.string (str l.body)) := cell_of_row wc _ 5 _ _ _ hX
    have a0 : wc.cell? ⟨w.heap.size, 0, none⟩ = some (.int .i64 0) := cell_of_row wc _ 0 _ _ _ hR
    have a1 : wc.cell? ⟨w.heap.size, 1, none⟩ = some (.int .i64 0) := cell_of_row wc _ 1 _ _ _ hR
    have a2 : wc.cell? ⟨w.heap.size, 2, none⟩ = some (.int .i64 0) := cell_of_row wc _ 2 _ _ _ hR
    have a3 : wc.cell? ⟨w.heap.size, 3, none⟩ = some (.int .i64 0) := cell_of_row wc _ 3 _ _ _ hR
    have a4 : wc.cell? ⟨w.heap.size, 4, none⟩ = some (.string ⟨#[]⟩) := cell_of_row wc _ 4 _ _ _ hR
    have a5 : wc.cell? ⟨w.heap.size, 5, none⟩ = some (.string ⟨#[]⟩) := cell_of_row wc _ 5 _ _ _ hR
    have fA : ∀ j, wc.frozen? ⟨w.heap.size, j, none⟩ = false := fun j => frozen_of_row wc _ j _ _ hR
    clear hX hR hW HE cv b0 b1 b2 n0 n1 n2 j0 j1 j2 j7 m7 h1 g0 g1 g2
    by_cases hp : Pub (l.pub : Int)
    · by_cases q0 : 1 ≤ l.step
      · by_cases q1 : l.step ≤ 29
        · by_cases q2 : l.count ≤ 49
          · by_cases q3 : l.prev ≤ 50
            · have _z := q3
              have hrl : decide (rightR l) = true := decide_eq_true ⟨q0, q1, q2, q3, hp⟩
              have HRL : Hid (decide (rightR l) = true) := hrl
              have cp : ∀ w, Calls Tryz.prog 88 #[.int .i64 (l.pub : Int)] w fun e w' => e = .returned (.bool true) ∧ w' = w := fun w => by
                have := refIsPublic_any (l.pub : Int) w
                rw [decide_eq_true hp] at this
                exact this
              have s0 : (0 : Int) < (l.step : Int) := by omega
              have s0d : decide ((0 : Int) < (l.step : Int)) = true := decide_eq_true s0
              have s0n : 0 < l.step := by omega
              have s0nd : decide (0 < l.step) = true := decide_eq_true s0n
              have s30 : (l.step : Int) < 30 := by omega
              have s30d : decide ((l.step : Int) < 30) = true := decide_eq_true s30
              have s30n : l.step < 30 := by omega
              have s30nd : decide (l.step < 30) = true := decide_eq_true s30n
              have c50 : (l.count : Int) < 50 := by omega
              have c50d : decide ((l.count : Int) < 50) = true := decide_eq_true c50
              have c50n : l.count < 50 := by omega
              have c50nd : decide (l.count < 50) = true := decide_eq_true c50n
              have p50 : (l.prev : Int) ≤ 50 := by omega
              have p50d : decide ((l.prev : Int) ≤ 50) = true := decide_eq_true p50
              have p50n : l.prev ≤ 50 := by omega
              have p50nd : decide (l.prev ≤ 50) = true := decide_eq_true p50n
              clear hrl hp q0 q1 q2 q3
              go_upto_region 6 with (first | (go_at_call 88; go_must (with_reducible refine (cp _).mono ?_); rintro e w' ⟨rfl, hw⟩; rw [hw]; clear hw w'))
              go_region
              all_goals go_wp2
              all_goals (try simp only [Exit.inBlock, Exit.then])
              all_goals (refine bodyPost_ret (v := .tuple #[.agg #[.int .i64 (l.step : Int), .int .i64 (l.count : Int), .int .i64 (l.prev : Int), .int .i64 (l.pub : Int), .string (str l.head), .string (str l.body)], .bool true]) ?_ ?_ ?_)
              all_goals first
                | rfl
                | (rw [results_cell_tmp (fn := Tryz.f114) rfl]; simp [go_sem, a0, a1, a2, a3, a4, a5])
                | (refine ⟨by rw [HRL.out], ?_⟩
                   repeat (first | (with_reducible refine Below.setCell ?_ (by exact Nat.le_refl _) _) | (with_reducible refine Below.drew ?_))
                   exact HW.out)
            · have _z := q3
              have hrl : decide (rightR l) = false := decide_eq_false fun z => q3 z.2.2.2.1
              have HRL : Hid (decide (rightR l) = false) := hrl
              have cp : ∀ w, Calls Tryz.prog 88 #[.int .i64 (l.pub : Int)] w fun e w' => e = .returned (.bool true) ∧ w' = w := fun w => by
                have := refIsPublic_any (l.pub : Int) w
                rw [decide_eq_true hp] at this
                exact this
              have s0 : (0 : Int) < (l.step : Int) := by omega
              have s0d : decide ((0 : Int) < (l.step : Int)) = true := decide_eq_true s0
              have s0n : 0 < l.step := by omega
              have s0nd : decide (0 < l.step) = true := decide_eq_true s0n
              have s30 : (l.step : Int) < 30 := by omega
              have s30d : decide ((l.step : Int) < 30) = true := decide_eq_true s30
              have s30n : l.step < 30 := by omega
              have s30nd : decide (l.step < 30) = true := decide_eq_true s30n
              have c50 : (l.count : Int) < 50 := by omega
              have c50d : decide ((l.count : Int) < 50) = true := decide_eq_true c50
              have c50n : l.count < 50 := by omega
              have c50nd : decide (l.count < 50) = true := decide_eq_true c50n
              have p50 : ¬ (l.prev : Int) ≤ 50 := by omega
              have p50d : decide ((l.prev : Int) ≤ 50) = false := decide_eq_false p50
              have p50n : ¬ l.prev ≤ 50 := by omega
              have p50nd : decide (l.prev ≤ 50) = false := decide_eq_false p50n
              clear hrl hp q0 q1 q2 q3
              go_upto_region 6 with (first | (go_at_call 88; go_must (with_reducible refine (cp _).mono ?_); rintro e w' ⟨rfl, hw⟩; rw [hw]; clear hw w'))
              go_region
              all_goals go_wp2
              all_goals (try simp only [Exit.inBlock, Exit.then])
              all_goals (refine bodyPost_ret (v := .tuple #[.agg #[.int .i64 (l.step : Int), .int .i64 (l.count : Int), .int .i64 (l.prev : Int), .int .i64 (l.pub : Int), .string (str l.head), .string (str l.body)], .bool false]) ?_ ?_ ?_)
              all_goals first
                | rfl
                | (rw [results_cell_tmp (fn := Tryz.f114) rfl]; simp [go_sem, a0, a1, a2, a3, a4, a5])
                | (refine ⟨by rw [HRL.out], ?_⟩
                   repeat (first | (with_reducible refine Below.setCell ?_ (by exact Nat.le_refl _) _) | (with_reducible refine Below.drew ?_))
                   exact HW.out)
          · have _z := q2
            have hrl : decide (rightR l) = false := decide_eq_false fun z => q2 z.2.2.1
            have HRL : Hid (decide (rightR l) = false) := hrl
            have cp : ∀ w, Calls Tryz.prog 88 #[.int .i64 (l.pub : Int)] w fun e w' => e = .returned (.bool true) ∧ w' = w := fun w => by
              have := refIsPublic_any (l.pub : Int) w
              rw [decide_eq_true hp] at this
              exact this
            have s0 : (0 : Int) < (l.step : Int) := by omega
            have s0d : decide ((0 : Int) < (l.step : Int)) = true := decide_eq_true s0
            have s0n : 0 < l.step := by omega
            have s0nd : decide (0 < l.step) = true := decide_eq_true s0n
            have s30 : (l.step : Int) < 30 := by omega
            have s30d : decide ((l.step : Int) < 30) = true := decide_eq_true s30
            have s30n : l.step < 30 := by omega
            have s30nd : decide (l.step < 30) = true := decide_eq_true s30n
            have c50 : ¬ (l.count : Int) < 50 := by omega
            have c50d : decide ((l.count : Int) < 50) = false := decide_eq_false c50
            have c50n : ¬ l.count < 50 := by omega
            have c50nd : decide (l.count < 50) = false := decide_eq_false c50n
            clear hrl hp q0 q1 q2
            go_upto_region 6 with (first | (go_at_call 88; go_must (with_reducible refine (cp _).mono ?_); rintro e w' ⟨rfl, hw⟩; rw [hw]; clear hw w'))
            go_region
            all_goals go_wp2
            all_goals (try simp only [Exit.inBlock, Exit.then])
            all_goals (refine bodyPost_ret (v := .tuple #[.agg #[.int .i64 (l.step : Int), .int .i64 (l.count : Int), .int .i64 (l.prev : Int), .int .i64 (l.pub : Int), .string (str l.head), .string (str l.body)], .bool false]) ?_ ?_ ?_)
            all_goals first
              | rfl
              | (rw [results_cell_tmp (fn := Tryz.f114) rfl]; simp [go_sem, a0, a1, a2, a3, a4, a5])
              | (refine ⟨by rw [HRL.out], ?_⟩
                 repeat (first | (with_reducible refine Below.setCell ?_ (by exact Nat.le_refl _) _) | (with_reducible refine Below.drew ?_))
                 exact HW.out)
        · have _z := q1
          have hrl : decide (rightR l) = false := decide_eq_false fun z => q1 z.2.1
          have HRL : Hid (decide (rightR l) = false) := hrl
          have cp : ∀ w, Calls Tryz.prog 88 #[.int .i64 (l.pub : Int)] w fun e w' => e = .returned (.bool true) ∧ w' = w := fun w => by
            have := refIsPublic_any (l.pub : Int) w
            rw [decide_eq_true hp] at this
            exact this
          have s0 : (0 : Int) < (l.step : Int) := by omega
          have s0d : decide ((0 : Int) < (l.step : Int)) = true := decide_eq_true s0
          have s0n : 0 < l.step := by omega
          have s0nd : decide (0 < l.step) = true := decide_eq_true s0n
          have s30 : ¬ (l.step : Int) < 30 := by omega
          have s30d : decide ((l.step : Int) < 30) = false := decide_eq_false s30
          have s30n : ¬ l.step < 30 := by omega
          have s30nd : decide (l.step < 30) = false := decide_eq_false s30n
          clear hrl hp q0 q1
          go_upto_region 6 with (first | (go_at_call 88; go_must (with_reducible refine (cp _).mono ?_); rintro e w' ⟨rfl, hw⟩; rw [hw]; clear hw w'))
          go_region
          all_goals go_wp2
          all_goals (try simp only [Exit.inBlock, Exit.then])
          all_goals (refine bodyPost_ret (v := .tuple #[.agg #[.int .i64 (l.step : Int), .int .i64 (l.count : Int), .int .i64 (l.prev : Int), .int .i64 (l.pub : Int), .string (str l.head), .string (str l.body)], .bool false]) ?_ ?_ ?_)
          all_goals first
            | rfl
            | (rw [results_cell_tmp (fn := Tryz.f114) rfl]; simp [go_sem, a0, a1, a2, a3, a4, a5])
            | (refine ⟨by rw [HRL.out], ?_⟩
               repeat (first | (with_reducible refine Below.setCell ?_ (by exact Nat.le_refl _) _) | (with_reducible refine Below.drew ?_))
               exact HW.out)
      · have _z := q0
        have hrl : decide (rightR l) = false := decide_eq_false fun z => q0 z.1
        have HRL : Hid (decide (rightR l) = false) := hrl
        have cp : ∀ w, Calls Tryz.prog 88 #[.int .i64 (l.pub : Int)] w fun e w' => e = .returned (.bool true) ∧ w' = w := fun w => by
          have := refIsPublic_any (l.pub : Int) w
          rw [decide_eq_true hp] at this
          exact this
        have s0 : ¬ (0 : Int) < (l.step : Int) := by omega
        have s0d : decide ((0 : Int) < (l.step : Int)) = false := decide_eq_false s0
        have s0n : ¬ 0 < l.step := by omega
        have s0nd : decide (0 < l.step) = false := decide_eq_false s0n
        clear hrl hp q0
        go_upto_region 6 with (first | (go_at_call 88; go_must (with_reducible refine (cp _).mono ?_); rintro e w' ⟨rfl, hw⟩; rw [hw]; clear hw w'))
        go_region
        all_goals go_wp2
        all_goals (try simp only [Exit.inBlock, Exit.then])
        all_goals (refine bodyPost_ret (v := .tuple #[.agg #[.int .i64 (l.step : Int), .int .i64 (l.count : Int), .int .i64 (l.prev : Int), .int .i64 (l.pub : Int), .string (str l.head), .string (str l.body)], .bool false]) ?_ ?_ ?_)
        all_goals first
          | rfl
          | (rw [results_cell_tmp (fn := Tryz.f114) rfl]; simp [go_sem, a0, a1, a2, a3, a4, a5])
          | (refine ⟨by rw [HRL.out], ?_⟩
             repeat (first | (with_reducible refine Below.setCell ?_ (by exact Nat.le_refl _) _) | (with_reducible refine Below.drew ?_))
             exact HW.out)
    · have _z := hp
      have hrl : decide (rightR l) = false := decide_eq_false fun z => hp z.2.2.2.2
      have HRL : Hid (decide (rightR l) = false) := hrl
      have cp : ∀ w, Calls Tryz.prog 88 #[.int .i64 (l.pub : Int)] w fun e w' => e = .returned (.bool false) ∧ w' = w := fun w => by
        have := refIsPublic_any (l.pub : Int) w
        rw [decide_eq_false hp] at this
        exact this
      clear hrl hp
      go_upto_region 6 with (first | (go_at_call 88; go_must (with_reducible refine (cp _).mono ?_); rintro e w' ⟨rfl, hw⟩; rw [hw]; clear hw w'))
      go_region
      all_goals go_wp2
      all_goals (try simp only [Exit.inBlock, Exit.then])
      all_goals (refine bodyPost_ret (v := .tuple #[.agg #[.int .i64 (l.step : Int), .int .i64 (l.count : Int), .int .i64 (l.prev : Int), .int .i64 (l.pub : Int), .string (str l.head), .string (str l.body)], .bool false]) ?_ ?_ ?_)
      all_goals first
        | rfl
        | (rw [results_cell_tmp (fn := Tryz.f114) rfl]; simp [go_sem, a0, a1, a2, a3, a4, a5])
        | (refine ⟨by rw [HRL.out], ?_⟩
           repeat (first | (with_reducible refine Below.setCell ?_ (by exact Nat.le_refl _) _) | (with_reducible refine Below.drew ?_))
           exact HW.out)
theorem refParse_any (t : ByteArray) (w : World) (ht : t.size ≤ maxLen) :
    Calls Tryz.prog 114 #[.string t] w fun e w' => (∃ l : LetM, e = .returned (.tuple #[.agg #[.int .i64 (l.step : Int), .int .i64 (l.count : Int), .int .i64 (l.prev : Int), .int .i64 (l.pub : Int), .string (str l.head), .string (str l.body)], .bool (decide (letOk t.data.toList))]) ∧ (letOk t.data.toList → l = letOf t.data.toList)) ∧ Below w.heap.size w w' := by
  have htl := len_list t
  by_cases h : 15 ≤ t.size ∧ t.size ≤ 55
  · refine (refParse_yes t w h.1 h.2).mono ?_
    rintro e w' ⟨he, hb⟩
    have hd : decide (rightR (letOf t.data.toList)) = decide (letOk t.data.toList) := by
      by_cases q : rightR (letOf t.data.toList)
      · rw [decide_eq_true q, decide_eq_true (show letOk t.data.toList from ⟨by rw [htl]; exact h, q⟩)]
      · rw [decide_eq_false q, decide_eq_false (fun z : letOk t.data.toList => q z.2)]
    rw [hd] at he
    exact ⟨⟨letOf t.data.toList, he, fun _ => rfl⟩, hb⟩
  · refine (refParse_no t w ht h).mono ?_
    rintro e w' ⟨he, hb⟩
    have hd : ¬ letOk t.data.toList := fun q => h (by have := q.1; rw [htl] at this; exact this)
    rw [decide_eq_false hd]
    exact ⟨⟨{ step := 0, count := 0, prev := 0, pub := 0, head := [], body := [] }, he, fun q => absurd q hd⟩, hb⟩
end Go.Proofs.YtabpkohcimiceabGreat
