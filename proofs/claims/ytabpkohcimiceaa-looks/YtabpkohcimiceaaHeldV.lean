import Derived.Test.YtabpkohcimiceaaHeldR
import Derived.WalkKit
import Derived.WalkSpells
import Derived.WalkLawsBesides
import Derived.OwnWalk
import Derived.Laws.ResultCell
import Derived.BigRegion
import Derived.Deep.QuietTactic
import Derived.BigQuiet
import Derived.Deep.DeepCutAuto
namespace Go.Proofs.Ytabpkohcimiceaa
open Go.RowKit
set_option linter.unusedVariables false

set_option maxRecDepth 100000 in
set_option maxHeartbeats 2000000 in
theorem held_unseen (d : ByteArray) (w : World) (hd : 32 ≤ d.size) (hd2 : d.size ≤ 1280) (h4 : d[4].toNat ≤ 30) (h5 : d[5].toNat ≤ 1) (ht : d.data.toList.take 32 = topL d[4].toNat d[5].toNat) (hl : 32 + 2 * (halfN d[4].toNat * 32) ≤ d.size) (M : Nat) (hM : M = d[5].toNat * (halfN d[4].toNat * 32))
    (c3 : ∀ w, Calls Try.prog 133 #[.string (d.extract (32 + M) (32 + M + halfN d[4].toNat * 32)), .int .i64 (d[4].toNat : Int)] w fun e w' => e = .returned (.tuple #[.agg zeroCells13, .bool false]) ∧ Below w.heap.size w w') :
    Calls Try.prog 90 #[.string d] w fun e w' => HeldNo e ∧ Below w.heap.size w w' := by
  have n4 : 4 < d.size := by omega
  have n5 : 5 < d.size := by omega
  have s4 : (4 : Int) < (d.size : Int) := by omega
  have s5 : (5 : Int) < (d.size : Int) := by omega
  have s32 : ¬ (d.size : Int) < 32 := by omega
  have q4 : ¬ (30 : Int) < (d[4].toNat : Int) := by omega
  have q5 : ¬ (1 : Int) < (d[5].toNat : Int) := by omega
  have b4 := d[4].toNat_lt
  have b5 := d[5].toNat_lt
  have c1 := fun w => half_any d[4].toNat w (by omega)
  have c2 := fun w => top_any d[4].toNat d[5].toNat w (by omega) (by omega)
  have hbq := ext_beq d 32 (topL d[4].toNat d[5].toNat)
  obtain ⟨hh1, hh2, hh3⟩ := halfN_le d[4].toNat h4
  rw [decide_eq_true ht] at hbq
  have hlI : ¬ (d.size : Int) < 32 + 2 * ((halfN d[4].toNat : Int) * 32) := by omega
  generalize str (topL d[4].toNat d[5].toNat) = tp at *
  have hMI : (d[5].toNat : Int) * ((halfN d[4].toNat : Int) * 32) = (M : Int) := by
    rw [hM]; simp
  have hM2 : 32 + M + halfN d[4].toNat * 32 ≤ d.size := by
    rw [hM]; have : d[5].toNat = 0 ∨ d[5].toNat = 1 := by omega
    rcases this with e | e <;> rw [e] <;> omega
  have wm : wrap64 ((d[5].toNat : Int) * ((halfN d[4].toNat : Int) * 32)) = (M : Int) := by
    rw [hMI]; unfold wrap64; omega
  clear ht hM hMI
  generalize halfN d[4].toNat = hf at *
  unfold zeroCells13 at c3
  go_enter Try.func90, Try.ntmps90
  go_upto_region 8 with (first | (go_at_call 73; refine (c1 _).mono ?_; rintro e w' ⟨rfl, hw⟩; rw [hw]; clear hw w') | (go_at_call 125; refine (c2 _).mono ?_; rintro e w1 ⟨rfl, hb1⟩))
  obtain ⟨hA, hB, hb⟩ := two_blocks w w1 hb1
  have HB : Hid (Below w.heap.size w w1) := hb
  have HA : Hid (w1.heap[w.heap.size]? = some (.cells zeroCells13 111)) := hA
  have HB2 : Hid (w1.heap[w.heap.size + 1]? = some (.cells zeroCells13 111)) := hB
  have hlt1 : w.heap.size + 1 < w1.heap.size := by have := hb1.size; simp at this; omega
  clear hA hB hb hb1 c1 c2
  go_upto_region 11 with fail
  go_wp2_with (first | (go_at_call 133; refine (c3 _).mono ?_; rintro e w2 ⟨rfl, hb2⟩; have hA2 := (hb2.block w.heap.size (by omega)).trans HA.out; have hB2 := (hb2.block (w.heap.size + 1) hlt1).trans HB2.out; have g0 : w2.cell? ⟨w.heap.size + 1, 0, none⟩ = some (.int .i64 0) := cell_of_row w2 _ 0 _ _ _ hB2; have g1 : w2.cell? ⟨w.heap.size + 1, 1, none⟩ = some (.int .i64 0) := cell_of_row w2 _ 1 _ _ _ hB2; have g2 : w2.cell? ⟨w.heap.size + 1, 2, none⟩ = some (.int .i64 0) := cell_of_row w2 _ 2 _ _ _ hB2; have g3 : w2.cell? ⟨w.heap.size + 1, 3, none⟩ = some (.int .i64 0) := cell_of_row w2 _ 3 _ _ _ hB2; have g4 : w2.cell? ⟨w.heap.size + 1, 4, none⟩ = some (.int .i64 0) := cell_of_row w2 _ 4 _ _ _ hB2; have g5 : w2.cell? ⟨w.heap.size + 1, 5, none⟩ = some (.int .i64 0) := cell_of_row w2 _ 5 _ _ _ hB2; have g6 : w2.cell? ⟨w.heap.size + 1, 6, none⟩ = some (.int .i64 0) := cell_of_row w2 _ 6 _ _ _ hB2; have g7 : w2.cell? ⟨w.heap.size + 1, 7, none⟩ = some (.string ⟨#[]⟩) := cell_of_row w2 _ 7 _ _ _ hB2; have g8 : w2.cell? ⟨w.heap.size + 1, 8, none⟩ = some (.string ⟨#[]⟩) := cell_of_row w2 _ 8 _ _ _ hB2; have g9 : w2.cell? ⟨w.heap.size + 1, 9, none⟩ = some (.string ⟨#[]⟩) := cell_of_row w2 _ 9 _ _ _ hB2; have g10 : w2.cell? ⟨w.heap.size + 1, 10, none⟩ = some (.int .i64 0) := cell_of_row w2 _ 10 _ _ _ hB2; have g11 : w2.cell? ⟨w.heap.size + 1, 11, none⟩ = some (.int .i64 0) := cell_of_row w2 _ 11 _ _ _ hB2; have g12 : w2.cell? ⟨w.heap.size + 1, 12, none⟩ = some (.slice none 0 0) := cell_of_row w2 _ 12 _ _ _ hB2; have fB : ∀ j, w2.frozen? ⟨w.heap.size + 1, j, none⟩ = false := fun j => frozen_of_row w2 _ j _ _ hB2; have a0 : w2.cell? ⟨w.heap.size, 0, none⟩ = some (.int .i64 0) := cell_of_row w2 _ 0 _ _ _ hA2; have a1 : w2.cell? ⟨w.heap.size, 1, none⟩ = some (.int .i64 0) := cell_of_row w2 _ 1 _ _ _ hA2; have a2 : w2.cell? ⟨w.heap.size, 2, none⟩ = some (.int .i64 0) := cell_of_row w2 _ 2 _ _ _ hA2; have a3 : w2.cell? ⟨w.heap.size, 3, none⟩ = some (.int .i64 0) := cell_of_row w2 _ 3 _ _ _ hA2; have a4 : w2.cell? ⟨w.heap.size, 4, none⟩ = some (.int .i64 0) := cell_of_row w2 _ 4 _ _ _ hA2; have a5 : w2.cell? ⟨w.heap.size, 5, none⟩ = some (.int .i64 0) := cell_of_row w2 _ 5 _ _ _ hA2; have a6 : w2.cell? ⟨w.heap.size, 6, none⟩ = some (.int .i64 0) := cell_of_row w2 _ 6 _ _ _ hA2; have a7 : w2.cell? ⟨w.heap.size, 7, none⟩ = some (.string ⟨#[]⟩) := cell_of_row w2 _ 7 _ _ _ hA2; have a8 : w2.cell? ⟨w.heap.size, 8, none⟩ = some (.string ⟨#[]⟩) := cell_of_row w2 _ 8 _ _ _ hA2; have a9 : w2.cell? ⟨w.heap.size, 9, none⟩ = some (.string ⟨#[]⟩) := cell_of_row w2 _ 9 _ _ _ hA2; have a10 : w2.cell? ⟨w.heap.size, 10, none⟩ = some (.int .i64 0) := cell_of_row w2 _ 10 _ _ _ hA2; have a11 : w2.cell? ⟨w.heap.size, 11, none⟩ = some (.int .i64 0) := cell_of_row w2 _ 11 _ _ _ hA2; have a12 : w2.cell? ⟨w.heap.size, 12, none⟩ = some (.slice none 0 0) := cell_of_row w2 _ 12 _ _ _ hA2; have fA : ∀ j, w2.frozen? ⟨w.heap.size, j, none⟩ = false := fun j => frozen_of_row w2 _ j _ _ hA2; have HBB : Hid (Below w.heap.size w w2) := below_tr HB.out hb2; clear hA2 hB2 hb2 c3))
  (try simp only [Exit.inBlock, Exit.then])
  refine bodyPost_ret (v := .tuple #[.agg zeroCells13, .int .i64 0, .bool false]) ?_ ?_ ?_
  · rw [results_cell_tmp2 (fn := Try.f90) rfl]; simp [go_sem, zeroCells13, a0, a1, a2, a3, a4, a5, a6, a7, a8, a9, a10, a11, a12]
  · rfl
  · refine ⟨.zero, ?_⟩
    repeat (refine Below.setCell ?_ (by first | exact Nat.le_refl _ | exact Nat.le_succ _) _)
    exact HBB.out
end Go.Proofs.Ytabpkohcimiceaa
