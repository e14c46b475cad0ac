import Derived.Test.YtabpkohcimiceabGreatRecC
import Derived.Test.YtabpkohcimiceabGreatKept
import Derived.WalkKit
import Derived.WalkSpells
import Derived.WalkLawsBesides
import Derived.Laws.ResultCell
namespace Go.Proofs.YtabpkohcimiceabGreat
open Go.RowKit
set_option linter.unusedVariables false

/-! ### Package pawl: openDisk, of a disk that is not good -/
def zeroCells16 : Array Value := #[.int .i64 0, .string ⟨#[]⟩, .int .i64 0, .int .i64 0, .int .i64 0, .int .i64 0, .int .i64 0, .int .i64 0, .int .i64 0, .int .i64 0, .string ⟨#[]⟩, .string ⟨#[]⟩, .string ⟨#[]⟩, .int .i64 0, .int .i64 0, .slice none 0 0]

set_option maxRecDepth 100000 in
set_option maxHeartbeats 600000 in
theorem openDisk_1 (d : ByteArray) (k : Nat) (w : World) (hk : d.size = k * 32) (hk1 : 1 ≤ k) (hk2 : k ≤ 40) (hD : isDiskL d.data.toList = true) (hs : sortL d.data.toList = 1) :
    Calls Tryz.prog 67 #[.string d] w fun e w' => e = .returned (.tuple #[.agg zeroCells16, .int .i64 10]) ∧ Below w.heap.size w w' := by
  have c1 := fun w => devDisk_any d w (by unfold maxLen; omega)
  rw [hD] at c1
  have c2 : ∀ w, Calls Tryz.prog 64 #[.string d] w fun e w' => (∃ (ss : StM) (lv : Nat) (a : Option Addr) (n c : Nat), e = .returned (.agg (stateCells 1 (repL d.data.toList) lv ss a n c))) ∧ Below w.heap.size w w' := by
    intro w
    refine (find_any d k w hk hk1 hk2).mono ?_
    rintro e w' ⟨⟨ss, lv, a, n, c, he, _⟩, hb⟩
    rw [hs] at he
    exact ⟨⟨ss, lv, a, n, c, he⟩, hb⟩
  unfold stateCells at c2
  generalize str (repL d.data.toList) = rp at *
  clear hs hD
  go_enter Tryz.func67, Tryz.ntmps67
  go_upto_region 8 with (first | (go_at_call 53; refine (c1 _).mono ?_; rintro e w' ⟨rfl, hw⟩; rw [hw]; clear hw w') | (go_at_call 64; with_reducible refine (c2 _).mono ?_; rintro e w2 ⟨⟨ss, lv, a, n, c, rfl⟩, hb2⟩))
  have hsz2 := hb2.size
  simp at hsz2
  have hA2 := (hb2.block w.heap.size (by simp)).trans (heap_alloc_new w _)
  have a0 : w2.cell? ⟨w.heap.size, 0, none⟩ = some (.int .i64 0) := cell_of_row w2 _ 0 _ _ _ hA2
  have a1 : w2.cell? ⟨w.heap.size, 1, none⟩ = some (.string ⟨#[]⟩) := cell_of_row w2 _ 1 _ _ _ hA2
  have a2 : w2.cell? ⟨w.heap.size, 2, none⟩ = some (.int .i64 0) := cell_of_row w2 _ 2 _ _ _ hA2
  have a3 : w2.cell? ⟨w.heap.size, 3, none⟩ = some (.int .i64 0) := cell_of_row w2 _ 3 _ _ _ hA2
  have a4 : w2.cell? ⟨w.heap.size, 4, none⟩ = some (.int .i64 0) := cell_of_row w2 _ 4 _ _ _ hA2
  have a5 : w2.cell? ⟨w.heap.size, 5, none⟩ = some (.int .i64 0) := cell_of_row w2 _ 5 _ _ _ hA2
  have a6 : w2.cell? ⟨w.heap.size, 6, none⟩ = some (.int .i64 0) := cell_of_row w2 _ 6 _ _ _ hA2
  have a7 : w2.cell? ⟨w.heap.size, 7, none⟩ = some (.int .i64 0) := cell_of_row w2 _ 7 _ _ _ hA2
  have a8 : w2.cell? ⟨w.heap.size, 8, none⟩ = some (.int .i64 0) := cell_of_row w2 _ 8 _ _ _ hA2
  have a9 : w2.cell? ⟨w.heap.size, 9, none⟩ = some (.int .i64 0) := cell_of_row w2 _ 9 _ _ _ hA2
  have a10 : w2.cell? ⟨w.heap.size, 10, none⟩ = some (.string ⟨#[]⟩) := cell_of_row w2 _ 10 _ _ _ hA2
  have a11 : w2.cell? ⟨w.heap.size, 11, none⟩ = some (.string ⟨#[]⟩) := cell_of_row w2 _ 11 _ _ _ hA2
  have a12 : w2.cell? ⟨w.heap.size, 12, none⟩ = some (.string ⟨#[]⟩) := cell_of_row w2 _ 12 _ _ _ hA2
  have a13 : w2.cell? ⟨w.heap.size, 13, none⟩ = some (.int .i64 0) := cell_of_row w2 _ 13 _ _ _ hA2
  have a14 : w2.cell? ⟨w.heap.size, 14, none⟩ = some (.int .i64 0) := cell_of_row w2 _ 14 _ _ _ hA2
  have a15 : w2.cell? ⟨w.heap.size, 15, none⟩ = some (.slice none 0 0) := cell_of_row w2 _ 15 _ _ _ hA2
  have fA : ∀ j, w2.frozen? ⟨w.heap.size, j, none⟩ = false := fun j => frozen_of_row w2 _ j _ _ hA2
  have hlt2 : w.heap.size < w2.heap.size := by omega
  have HW2 : Hid (Below w.heap.size w w2) := below_tr ((Below.refl _ _).alloc (Nat.le_refl _) _) hb2
  clear hA2 hb2
  clear c1 c2
  go_wp2
  (try simp only [Exit.inBlock, Exit.then])
  refine bodyPost_ret (v := .tuple #[.agg zeroCells16, .int .i64 10]) ?_ ?_ ?_
  · rw [results_cell_tmp (fn := Tryz.f67) rfl]; simp [go_sem, zeroCells16, hlt2, a0, a1, a2, a3, a4, a5, a6, a7, a8, a9, a10, a11, a12, a13, a14, a15]
  · rfl
  · refine ⟨rfl, ?_⟩
    have hw := HW2.out
    repeat (first | (with_reducible refine Below.setCell ?_ (by exact Nat.le_refl _) _) | (with_reducible refine Below.alloc ?_ (by simp; omega) _))
    exact hw

set_option maxRecDepth 100000 in
set_option maxHeartbeats 600000 in
theorem openDisk_2 (d : ByteArray) (k : Nat) (w : World) (hk : d.size = k * 32) (hk1 : 1 ≤ k) (hk2 : k ≤ 40) (hD : isDiskL d.data.toList = true) (hs : sortL d.data.toList = 2) :
    Calls Tryz.prog 67 #[.string d] w fun e w' => e = .returned (.tuple #[.agg zeroCells16, .int .i64 11]) ∧ Below w.heap.size w w' := by
  have c1 := fun w => devDisk_any d w (by unfold maxLen; omega)
  rw [hD] at c1
  have c2 : ∀ w, Calls Tryz.prog 64 #[.string d] w fun e w' => (∃ (ss : StM) (lv : Nat) (a : Option Addr) (n c : Nat), e = .returned (.agg (stateCells 2 (repL d.data.toList) lv ss a n c))) ∧ Below w.heap.size w w' := by
    intro w
    refine (find_any d k w hk hk1 hk2).mono ?_
    rintro e w' ⟨⟨ss, lv, a, n, c, he, _⟩, hb⟩
    rw [hs] at he
    exact ⟨⟨ss, lv, a, n, c, he⟩, hb⟩
  unfold stateCells at c2
  generalize str (repL d.data.toList) = rp at *
  clear hs hD
  go_enter Tryz.func67, Tryz.ntmps67
  go_upto_region 10 with (first | (go_at_call 53; refine (c1 _).mono ?_; rintro e w' ⟨rfl, hw⟩; rw [hw]; clear hw w') | (go_at_call 64; with_reducible refine (c2 _).mono ?_; rintro e w2 ⟨⟨ss, lv, a, n, c, rfl⟩, hb2⟩))
  have hsz2 := hb2.size
  simp at hsz2
  have hA2 := (hb2.block w.heap.size (by simp)).trans (heap_alloc_new w _)
  have a0 : w2.cell? ⟨w.heap.size, 0, none⟩ = some (.int .i64 0) := cell_of_row w2 _ 0 _ _ _ hA2
  have a1 : w2.cell? ⟨w.heap.size, 1, none⟩ = some (.string ⟨#[]⟩) := cell_of_row w2 _ 1 _ _ _ hA2
  have a2 : w2.cell? ⟨w.heap.size, 2, none⟩ = some (.int .i64 0) := cell_of_row w2 _ 2 _ _ _ hA2
  have a3 : w2.cell? ⟨w.heap.size, 3, none⟩ = some (.int .i64 0) := cell_of_row w2 _ 3 _ _ _ hA2
  have a4 : w2.cell? ⟨w.heap.size, 4, none⟩ = some (.int .i64 0) := cell_of_row w2 _ 4 _ _ _ hA2
  have a5 : w2.cell? ⟨w.heap.size, 5, none⟩ = some (.int .i64 0) := cell_of_row w2 _ 5 _ _ _ hA2
  have a6 : w2.cell? ⟨w.heap.size, 6, none⟩ = some (.int .i64 0) := cell_of_row w2 _ 6 _ _ _ hA2
  have a7 : w2.cell? ⟨w.heap.size, 7, none⟩ = some (.int .i64 0) := cell_of_row w2 _ 7 _ _ _ hA2
  have a8 : w2.cell? ⟨w.heap.size, 8, none⟩ = some (.int .i64 0) := cell_of_row w2 _ 8 _ _ _ hA2
  have a9 : w2.cell? ⟨w.heap.size, 9, none⟩ = some (.int .i64 0) := cell_of_row w2 _ 9 _ _ _ hA2
  have a10 : w2.cell? ⟨w.heap.size, 10, none⟩ = some (.string ⟨#[]⟩) := cell_of_row w2 _ 10 _ _ _ hA2
  have a11 : w2.cell? ⟨w.heap.size, 11, none⟩ = some (.string ⟨#[]⟩) := cell_of_row w2 _ 11 _ _ _ hA2
  have a12 : w2.cell? ⟨w.heap.size, 12, none⟩ = some (.string ⟨#[]⟩) := cell_of_row w2 _ 12 _ _ _ hA2
  have a13 : w2.cell? ⟨w.heap.size, 13, none⟩ = some (.int .i64 0) := cell_of_row w2 _ 13 _ _ _ hA2
  have a14 : w2.cell? ⟨w.heap.size, 14, none⟩ = some (.int .i64 0) := cell_of_row w2 _ 14 _ _ _ hA2
  have a15 : w2.cell? ⟨w.heap.size, 15, none⟩ = some (.slice none 0 0) := cell_of_row w2 _ 15 _ _ _ hA2
  have fA : ∀ j, w2.frozen? ⟨w.heap.size, j, none⟩ = false := fun j => frozen_of_row w2 _ j _ _ hA2
  have hlt2 : w.heap.size < w2.heap.size := by omega
  have HW2 : Hid (Below w.heap.size w w2) := below_tr ((Below.refl _ _).alloc (Nat.le_refl _) _) hb2
  clear hA2 hb2
  clear c1 c2
  go_wp2
  (try simp only [Exit.inBlock, Exit.then])
  refine bodyPost_ret (v := .tuple #[.agg zeroCells16, .int .i64 11]) ?_ ?_ ?_
  · rw [results_cell_tmp (fn := Tryz.f67) rfl]; simp [go_sem, zeroCells16, hlt2, a0, a1, a2, a3, a4, a5, a6, a7, a8, a9, a10, a11, a12, a13, a14, a15]
  · rfl
  · refine ⟨rfl, ?_⟩
    have hw := HW2.out
    repeat (first | (with_reducible refine Below.setCell ?_ (by exact Nat.le_refl _) _) | (with_reducible refine Below.alloc ?_ (by simp; omega) _))
    exact hw

set_option maxRecDepth 100000 in
set_option maxHeartbeats 600000 in
theorem openDisk_0 (d : ByteArray) (k : Nat) (w : World) (hk : d.size = k * 32) (hk1 : 1 ≤ k) (hk2 : k ≤ 40) (hD : isDiskL d.data.toList = true) (hs : sortL d.data.toList = 0) :
    Calls Tryz.prog 67 #[.string d] w fun e w' => e = .returned (.tuple #[.agg zeroCells16, .int .i64 12]) ∧ Below w.heap.size w w' := by
  have c1 := fun w => devDisk_any d w (by unfold maxLen; omega)
  rw [hD] at c1
  have c2 : ∀ w, Calls Tryz.prog 64 #[.string d] w fun e w' => (∃ (ss : StM) (lv : Nat) (a : Option Addr) (n c : Nat), e = .returned (.agg (stateCells 0 (repL d.data.toList) lv ss a n c))) ∧ Below w.heap.size w w' := by
    intro w
    refine (find_any d k w hk hk1 hk2).mono ?_
    rintro e w' ⟨⟨ss, lv, a, n, c, he, _⟩, hb⟩
    rw [hs] at he
    exact ⟨⟨ss, lv, a, n, c, he⟩, hb⟩
  unfold stateCells at c2
  generalize str (repL d.data.toList) = rp at *
  clear hs hD
  go_enter Tryz.func67, Tryz.ntmps67
  go_upto_region 11 with (first | (go_at_call 53; refine (c1 _).mono ?_; rintro e w' ⟨rfl, hw⟩; rw [hw]; clear hw w') | (go_at_call 64; with_reducible refine (c2 _).mono ?_; rintro e w2 ⟨⟨ss, lv, a, n, c, rfl⟩, hb2⟩))
  have hsz2 := hb2.size
  simp at hsz2
  have hA2 := (hb2.block w.heap.size (by simp)).trans (heap_alloc_new w _)
  have a0 : w2.cell? ⟨w.heap.size, 0, none⟩ = some (.int .i64 0) := cell_of_row w2 _ 0 _ _ _ hA2
  have a1 : w2.cell? ⟨w.heap.size, 1, none⟩ = some (.string ⟨#[]⟩) := cell_of_row w2 _ 1 _ _ _ hA2
  have a2 : w2.cell? ⟨w.heap.size, 2, none⟩ = some (.int .i64 0) := cell_of_row w2 _ 2 _ _ _ hA2
  have a3 : w2.cell? ⟨w.heap.size, 3, none⟩ = some (.int .i64 0) := cell_of_row w2 _ 3 _ _ _ hA2
  have a4 : w2.cell? ⟨w.heap.size, 4, none⟩ = some (.int .i64 0) := cell_of_row w2 _ 4 _ _ _ hA2
  have a5 : w2.cell? ⟨w.heap.size, 5, none⟩ = some (.int .i64 0) := cell_of_row w2 _ 5 _ _ _ hA2
  have a6 : w2.cell? ⟨w.heap.size, 6, none⟩ = some (.int .i64 0) := cell_of_row w2 _ 6 _ _ _ hA2
  have a7 : w2.cell? ⟨w.heap.size, 7, none⟩ = some (.int .i64 0) := cell_of_row w2 _ 7 _ _ _ hA2
  have a8 : w2.cell? ⟨w.heap.size, 8, none⟩ = some (.int .i64 0) := cell_of_row w2 _ 8 _ _ _ hA2
  have a9 : w2.cell? ⟨w.heap.size, 9, none⟩ = some (.int .i64 0) := cell_of_row w2 _ 9 _ _ _ hA2
  have a10 : w2.cell? ⟨w.heap.size, 10, none⟩ = some (.string ⟨#[]⟩) := cell_of_row w2 _ 10 _ _ _ hA2
  have a11 : w2.cell? ⟨w.heap.size, 11, none⟩ = some (.string ⟨#[]⟩) := cell_of_row w2 _ 11 _ _ _ hA2
  have a12 : w2.cell? ⟨w.heap.size, 12, none⟩ = some (.string ⟨#[]⟩) := cell_of_row w2 _ 12 _ _ _ hA2
  have a13 : w2.cell? ⟨w.heap.size, 13, none⟩ = some (.int .i64 0) := cell_of_row w2 _ 13 _ _ _ hA2
  have a14 : w2.cell? ⟨w.heap.size, 14, none⟩ = some (.int .i64 0) := cell_of_row w2 _ 14 _ _ _ hA2
  have a15 : w2.cell? ⟨w.heap.size, 15, none⟩ = some (.slice none 0 0) := cell_of_row w2 _ 15 _ _ _ hA2
  have fA : ∀ j, w2.frozen? ⟨w.heap.size, j, none⟩ = false := fun j => frozen_of_row w2 _ j _ _ hA2
  have hlt2 : w.heap.size < w2.heap.size := by omega
  have HW2 : Hid (Below w.heap.size w w2) := below_tr ((Below.refl _ _).alloc (Nat.le_refl _) _) hb2
  clear hA2 hb2
  clear c1 c2
  go_wp2
  (try simp only [Exit.inBlock, Exit.then])
  refine bodyPost_ret (v := .tuple #[.agg zeroCells16, .int .i64 12]) ?_ ?_ ?_
  · rw [results_cell_tmp (fn := Tryz.f67) rfl]; simp [go_sem, zeroCells16, hlt2, a0, a1, a2, a3, a4, a5, a6, a7, a8, a9, a10, a11, a12, a13, a14, a15]
  · rfl
  · refine ⟨rfl, ?_⟩
    have hw := HW2.out
    repeat (first | (with_reducible refine Below.setCell ?_ (by exact Nat.le_refl _) _) | (with_reducible refine Below.alloc ?_ (by simp; omega) _))
    exact hw
end Go.Proofs.YtabpkohcimiceabGreat
