import Derived.Test.YtabpkohcimiceaaHeldR
import Derived.WalkKit
import Derived.WalkSpells
import Derived.WalkLawsBesides
import Derived.OwnWalk
import Derived.Laws.ResultCell
import Derived.BigRegion
import Derived.Deep.QuietTactic
import Derived.BigQuiet
import Derived.Deep.DeepCutAuto
namespace Go.Proofs.Ytabpkohcimiceaa
open Go.RowKit
set_option linter.unusedVariables false

set_option maxRecDepth 100000 in
set_option maxHeartbeats 8000000 in
theorem held_len (d : ByteArray) (w : World) (hd : 32 ≤ d.size) (hd2 : d.size ≤ 1280) (h4 : d[4].toNat ≤ 30) (h5 : d[5].toNat ≤ 1) (ht : d.data.toList.take 32 = topL d[4].toNat d[5].toNat) (h : ¬ 32 + 2 * (halfN d[4].toNat * 32) ≤ d.size) :
    Calls Try.prog 90 #[.string d] w fun e w' => HeldNo e ∧ Below w.heap.size w w' := by
  have n4 : 4 < d.size := by omega
  have n5 : 5 < d.size := by omega
  have s4 : (4 : Int) < (d.size : Int) := by omega
  have s5 : (5 : Int) < (d.size : Int) := by omega
  have s32 : ¬ (d.size : Int) < 32 := by omega
  have q4 : ¬ (30 : Int) < (d[4].toNat : Int) := by omega
  have q5 : ¬ (1 : Int) < (d[5].toNat : Int) := by omega
  have b4 := d[4].toNat_lt
  have b5 := d[5].toNat_lt
  have c1 := fun w => half_any d[4].toNat w (by omega)
  have c2 := fun w => top_any d[4].toNat d[5].toNat w (by omega) (by omega)
  have hbq := ext_beq d 32 (topL d[4].toNat d[5].toNat)
  have hh := (show halfN d[4].toNat ≤ 11 by unfold halfN; omega)
  rw [decide_eq_true ht] at hbq
  have hl : (d.size : Int) < 32 + 2 * ((halfN d[4].toNat : Int) * 32) := by
    omega
  clear h ht
  generalize str (topL d[4].toNat d[5].toNat) = tp at *
  generalize halfN d[4].toNat = hf at *
  go_enter Try.func90, Try.ntmps90
  go_upto_region 8 with (first | (go_at_call 73; refine (c1 _).mono ?_; rintro e w' ⟨rfl, hw⟩; rw [hw]; clear hw w') | (go_at_call 125; refine (c2 _).mono ?_; rintro e w1 ⟨rfl, hb1⟩))
  obtain ⟨hA, hB, hb⟩ := two_blocks w w1 hb1
  have HB : Hid (Below w.heap.size w w1) := hb
  have fA : ∀ j, w1.frozen? ⟨w.heap.size, j, none⟩ = false := fun j => frozen_of_row w1 _ j _ _ hA
  have a0 : w1.cell? ⟨w.heap.size, 0, none⟩ = some (.int .i64 0) := cell_of_row w1 _ 0 _ _ _ hA
  have a1 : w1.cell? ⟨w.heap.size, 1, none⟩ = some (.int .i64 0) := cell_of_row w1 _ 1 _ _ _ hA
  have a2 : w1.cell? ⟨w.heap.size, 2, none⟩ = some (.int .i64 0) := cell_of_row w1 _ 2 _ _ _ hA
  have a3 : w1.cell? ⟨w.heap.size, 3, none⟩ = some (.int .i64 0) := cell_of_row w1 _ 3 _ _ _ hA
  have a4 : w1.cell? ⟨w.heap.size, 4, none⟩ = some (.int .i64 0) := cell_of_row w1 _ 4 _ _ _ hA
  have a5 : w1.cell? ⟨w.heap.size, 5, none⟩ = some (.int .i64 0) := cell_of_row w1 _ 5 _ _ _ hA
  have a6 : w1.cell? ⟨w.heap.size, 6, none⟩ = some (.int .i64 0) := cell_of_row w1 _ 6 _ _ _ hA
  have a7 : w1.cell? ⟨w.heap.size, 7, none⟩ = some (.string ⟨#[]⟩) := cell_of_row w1 _ 7 _ _ _ hA
  have a8 : w1.cell? ⟨w.heap.size, 8, none⟩ = some (.string ⟨#[]⟩) := cell_of_row w1 _ 8 _ _ _ hA
  have a9 : w1.cell? ⟨w.heap.size, 9, none⟩ = some (.string ⟨#[]⟩) := cell_of_row w1 _ 9 _ _ _ hA
  have a10 : w1.cell? ⟨w.heap.size, 10, none⟩ = some (.int .i64 0) := cell_of_row w1 _ 10 _ _ _ hA
  have a11 : w1.cell? ⟨w.heap.size, 11, none⟩ = some (.int .i64 0) := cell_of_row w1 _ 11 _ _ _ hA
  have a12 : w1.cell? ⟨w.heap.size, 12, none⟩ = some (.slice none 0 0) := cell_of_row w1 _ 12 _ _ _ hA
  have b0 : w1.cell? ⟨w.heap.size + 1, 0, none⟩ = some (.int .i64 0) := cell_of_row w1 _ 0 _ _ _ hB
  have b1 : w1.cell? ⟨w.heap.size + 1, 1, none⟩ = some (.int .i64 0) := cell_of_row w1 _ 1 _ _ _ hB
  have b2 : w1.cell? ⟨w.heap.size + 1, 2, none⟩ = some (.int .i64 0) := cell_of_row w1 _ 2 _ _ _ hB
  have b3 : w1.cell? ⟨w.heap.size + 1, 3, none⟩ = some (.int .i64 0) := cell_of_row w1 _ 3 _ _ _ hB
  have b4 : w1.cell? ⟨w.heap.size + 1, 4, none⟩ = some (.int .i64 0) := cell_of_row w1 _ 4 _ _ _ hB
  have b5 : w1.cell? ⟨w.heap.size + 1, 5, none⟩ = some (.int .i64 0) := cell_of_row w1 _ 5 _ _ _ hB
  have b6 : w1.cell? ⟨w.heap.size + 1, 6, none⟩ = some (.int .i64 0) := cell_of_row w1 _ 6 _ _ _ hB
  have b7 : w1.cell? ⟨w.heap.size + 1, 7, none⟩ = some (.string ⟨#[]⟩) := cell_of_row w1 _ 7 _ _ _ hB
  have b8 : w1.cell? ⟨w.heap.size + 1, 8, none⟩ = some (.string ⟨#[]⟩) := cell_of_row w1 _ 8 _ _ _ hB
  have b9 : w1.cell? ⟨w.heap.size + 1, 9, none⟩ = some (.string ⟨#[]⟩) := cell_of_row w1 _ 9 _ _ _ hB
  have b10 : w1.cell? ⟨w.heap.size + 1, 10, none⟩ = some (.int .i64 0) := cell_of_row w1 _ 10 _ _ _ hB
  have b11 : w1.cell? ⟨w.heap.size + 1, 11, none⟩ = some (.int .i64 0) := cell_of_row w1 _ 11 _ _ _ hB
  have b12 : w1.cell? ⟨w.heap.size + 1, 12, none⟩ = some (.slice none 0 0) := cell_of_row w1 _ 12 _ _ _ hB
  clear hA hB hb hb1 c1 c2
  go_wp2
  (try simp only [Exit.inBlock, Exit.then])
  refine bodyPost_ret (v := .tuple #[.agg zeroCells13, .int .i64 0, .bool false]) ?_ ?_ ?_
  · rw [results_cell_tmp2 (fn := Try.f90) rfl]; simp [go_sem, zeroCells13, a0, a1, a2, a3, a4, a5, a6, a7, a8, a9, a10, a11, a12]
  · rfl
  · refine ⟨.zero, ?_⟩
    repeat (refine Below.setCell ?_ (by exact Nat.le_refl _) _)
    exact HB.out
end Go.Proofs.Ytabpkohcimiceaa
