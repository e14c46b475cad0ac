import Derived.Test.YtabpkohcimiceaaReadD
import Derived.Test.YtabpkohcimiceaaPackM
import Derived.Test.YtabpkohcimiceaaBoxF
import Derived.Test.YtabpkohcimiceaaHeldU
import Derived.WalkKit
import Derived.WalkSpells
import Derived.WalkLawsBesides
import Derived.OwnWalk
import Derived.Laws.ResultCell
namespace Go.Proofs.Ytabpkohcimiceaa
open Go.RowKit
set_option linter.unusedVariables false

/-! ### Package store: the box of a disk -/
def BoxOut (d : List UInt8) (b : Nat) (w' : World) (e : Ending) : Prop :=
  (heldOk d ∧ ∃ v, e = .returned (.tuple #[.agg (stCells (heldS d) v), .bool true]) ∧ w'.ownsRow b 178 3 v (heldS d).kept.length (entsCells (heldS d).kept)) ∨ (¬ heldOk d ∧ ReadNo e)

set_option maxRecDepth 100000 in
set_option maxHeartbeats 2000000 in
theorem storeRead_early (d : ByteArray) (k : Nat) (w : World) (hk : d.size = k * 32) (hk1 : 1 ≤ k) (hk2 : k ≤ 40) (h : ¬ (((d.data.toList.getD 4 0).toNat ≤ 30 ∧ (d.data.toList.getD 5 0).toNat ≤ 1) ∧ 1 + 2 * halfN (d.data.toList.getD 4 0).toNat ≤ k)) :
    Calls Try.prog 132 #[.string d, .int .i64 ((d.data.toList.getD 5 0).toNat : Int)] w fun e w' => BoxOut d.data.toList w.heap.size w' e ∧ Below w.heap.size w w' := by
  have c4 : ∀ w, Calls Try.prog 120 #[.string d, .int .i64 4] w fun e w' => e = .returned (.int .i64 ((d.data.toList.getD 4 0).toNat : Int)) ∧ w' = w := fun w => tbyte_any d 4 w (by unfold maxLen; omega) (by omega)
  have cs := fun w => sectors_any d k w (by unfold maxLen; omega) hk
  have b4 := byte_le (d.data.toList.getD 4 0)
  have cn := fun w => boxNeed_any (d.data.toList.getD 4 0).toNat w (by omega)
  have HNO : Hid (¬ heldOk d.data.toList) := fun x => h ⟨⟨x.1.2.1, x.1.2.2.1⟩, by have := x.1.2.2.2.2; rw [len_list] at this; omega⟩
  generalize (d.data.toList.getD 4 0).toNat = x4 at *
  generalize (d.data.toList.getD 5 0).toNat = x5 at *
  by_cases t4 : x4 ≤ 30
  · have t4I : ¬ (30 : Int) < (x4 : Int) := by omega
    have d4 : decide ((30 : Int) < (x4 : Int)) = false := decide_eq_false t4I
    by_cases t5 : x5 ≤ 1
    · have t5I : ¬ (1 : Int) < (x5 : Int) := by omega
      have d5 : decide ((1 : Int) < (x5 : Int)) = false := decide_eq_false t5I
      have tn : (k : Int) < ((1 + 2 * halfN x4 : Nat) : Int) := by
        have : ¬ 1 + 2 * halfN x4 ≤ k := fun q => h ⟨⟨t4, t5⟩, q⟩
        omega
      generalize 1 + 2 * halfN x4 = nn at *
      clear h
      go_enter Try.func132, Try.ntmps132
      go_wp2_with (first | (go_at_call 120; with_reducible refine (c4 _).mono ?_; rintro e w' ⟨rfl, hw⟩; rw [hw]; clear hw w') | (go_at_call 76; refine (cs _).mono ?_; rintro e w' ⟨rfl, hw⟩; rw [hw]; clear hw w') | (go_at_call 72; refine (cn _).mono ?_; rintro e w' ⟨rfl, hw⟩; rw [hw]; clear hw w'))
      (try simp only [Exit.inBlock, Exit.then])
      refine bodyPost_ret (v := .tuple #[.agg zeroCells13, .bool false]) ?_ ?_ ?_
      · rw [results_cell_tmp (fn := Try.f132) rfl]; simp [go_sem, zeroCells13]
      · rfl
      · exact ⟨.inr ⟨HNO.out, .zero⟩, (Below.refl _ _).alloc (Nat.le_refl _) _⟩
    · have t5I : (1 : Int) < (x5 : Int) := by omega
      clear h
      go_enter Try.func132, Try.ntmps132
      go_wp2_with (first | (go_at_call 120; with_reducible refine (c4 _).mono ?_; rintro e w' ⟨rfl, hw⟩; rw [hw]; clear hw w'))
      (try simp only [Exit.inBlock, Exit.then])
      refine bodyPost_ret (v := .tuple #[.agg zeroCells13, .bool false]) ?_ ?_ ?_
      · rw [results_cell_tmp (fn := Try.f132) rfl]; simp [go_sem, zeroCells13]
      · rfl
      · exact ⟨.inr ⟨HNO.out, .zero⟩, (Below.refl _ _).alloc (Nat.le_refl _) _⟩
  · have t4I : (30 : Int) < (x4 : Int) := by omega
    clear h
    go_enter Try.func132, Try.ntmps132
    go_wp2_with (first | (go_at_call 120; with_reducible refine (c4 _).mono ?_; rintro e w' ⟨rfl, hw⟩; rw [hw]; clear hw w'))
    (try simp only [Exit.inBlock, Exit.then])
    refine bodyPost_ret (v := .tuple #[.agg zeroCells13, .bool false]) ?_ ?_ ?_
    · rw [results_cell_tmp (fn := Try.f132) rfl]; simp [go_sem, zeroCells13]
    · rfl
    · exact ⟨.inr ⟨HNO.out, .zero⟩, (Below.refl _ _).alloc (Nat.le_refl _) _⟩

set_option maxRecDepth 100000 in
set_option maxHeartbeats 2000000 in
theorem storeRead_top (d : ByteArray) (k : Nat) (w : World) (hk : d.size = k * 32) (hk1 : 1 ≤ k) (hk2 : k ≤ 40) (h4 : (d.data.toList.getD 4 0).toNat ≤ 30) (h5 : (d.data.toList.getD 5 0).toNat ≤ 1) (hn : 1 + 2 * halfN (d.data.toList.getD 4 0).toNat ≤ k)
    (h : ¬ d.data.toList.take 32 = topL (d.data.toList.getD 4 0).toNat (d.data.toList.getD 5 0).toNat) :
    Calls Try.prog 132 #[.string d, .int .i64 ((d.data.toList.getD 5 0).toNat : Int)] w fun e w' => BoxOut d.data.toList w.heap.size w' e ∧ Below w.heap.size w w' := by
  have c4 : ∀ w, Calls Try.prog 120 #[.string d, .int .i64 4] w fun e w' => e = .returned (.int .i64 ((d.data.toList.getD 4 0).toNat : Int)) ∧ w' = w := fun w => tbyte_any d 4 w (by unfold maxLen; omega) (by omega)
  have cs := fun w => sectors_any d k w (by unfold maxLen; omega) hk
  have b4 := byte_le (d.data.toList.getD 4 0)
  have b5 := byte_le (d.data.toList.getD 5 0)
  have cn := fun w => boxNeed_any (d.data.toList.getD 4 0).toNat w (by omega)
  have c0 : ∀ w, Calls Try.prog 131 #[.string d, .int .i64 0] w fun e w' => e = .returned (.string (str (d.data.toList.take 32))) ∧ w' = w := fun w => by
    have := sector_any d k 0 w (by omega) hk (by omega)
    rw [secL] at this
    exact this
  have cf := fun w => first_any (d.data.toList.getD 4 0).toNat (d.data.toList.getD 5 0).toNat w (by omega) (by omega)
  have hbq := str_beq (d.data.toList.take 32) (topL (d.data.toList.getD 4 0).toNat (d.data.toList.getD 5 0).toNat)
  rw [decide_eq_false h] at hbq
  have HNO : Hid (¬ heldOk d.data.toList) := fun x => h x.1.2.2.2.1
  generalize str (d.data.toList.take 32) = s0 at *
  generalize str (topL (d.data.toList.getD 4 0).toNat (d.data.toList.getD 5 0).toNat) = tp at *
  generalize (d.data.toList.getD 4 0).toNat = x4 at *
  generalize (d.data.toList.getD 5 0).toNat = x5 at *
  have t4I : ¬ (30 : Int) < (x4 : Int) := by omega
  have d4 : decide ((30 : Int) < (x4 : Int)) = false := decide_eq_false t4I
  have t5I : ¬ (1 : Int) < (x5 : Int) := by omega
  have d5 : decide ((1 : Int) < (x5 : Int)) = false := decide_eq_false t5I
  have tn : ¬ (k : Int) < ((1 + 2 * halfN x4 : Nat) : Int) := by omega
  have dn : decide ((k : Int) < ((1 + 2 * halfN x4 : Nat) : Int)) = false := decide_eq_false tn
  clear h
  generalize 1 + 2 * halfN x4 = nd at *
  go_enter Try.func132, Try.ntmps132
  go_upto_region 5 with (first | (go_at_call 120; with_reducible refine (c4 _).mono ?_; rintro e w' ⟨rfl, hw⟩; rw [hw]; clear hw w') | (go_at_call 76; refine (cs _).mono ?_; rintro e w' ⟨rfl, hw⟩; rw [hw]; clear hw w') | (go_at_call 72; refine (cn _).mono ?_; rintro e w' ⟨rfl, hw⟩; rw [hw]; clear hw w') | (go_at_call 131; with_reducible refine (c0 _).mono ?_; rintro e w' ⟨rfl, hw⟩; rw [hw]; clear hw w') | (go_at_call 150; refine (cf _).mono ?_; rintro e w1 ⟨rfl, hb1⟩))
  have hA := (hb1.block w.heap.size (by simp)).trans (heap_alloc_new w _)
  have a0 : w1.cell? ⟨w.heap.size, 0, none⟩ = some (.int .i64 0) := cell_of_row w1 _ 0 _ _ _ hA
  have a1 : w1.cell? ⟨w.heap.size, 1, none⟩ = some (.int .i64 0) := cell_of_row w1 _ 1 _ _ _ hA
  have a2 : w1.cell? ⟨w.heap.size, 2, none⟩ = some (.int .i64 0) := cell_of_row w1 _ 2 _ _ _ hA
  have a3 : w1.cell? ⟨w.heap.size, 3, none⟩ = some (.int .i64 0) := cell_of_row w1 _ 3 _ _ _ hA
  have a4 : w1.cell? ⟨w.heap.size, 4, none⟩ = some (.int .i64 0) := cell_of_row w1 _ 4 _ _ _ hA
  have a5 : w1.cell? ⟨w.heap.size, 5, none⟩ = some (.int .i64 0) := cell_of_row w1 _ 5 _ _ _ hA
  have a6 : w1.cell? ⟨w.heap.size, 6, none⟩ = some (.int .i64 0) := cell_of_row w1 _ 6 _ _ _ hA
  have a7 : w1.cell? ⟨w.heap.size, 7, none⟩ = some (.string ⟨#[]⟩) := cell_of_row w1 _ 7 _ _ _ hA
  have a8 : w1.cell? ⟨w.heap.size, 8, none⟩ = some (.string ⟨#[]⟩) := cell_of_row w1 _ 8 _ _ _ hA
  have a9 : w1.cell? ⟨w.heap.size, 9, none⟩ = some (.string ⟨#[]⟩) := cell_of_row w1 _ 9 _ _ _ hA
  have a10 : w1.cell? ⟨w.heap.size, 10, none⟩ = some (.int .i64 0) := cell_of_row w1 _ 10 _ _ _ hA
  have a11 : w1.cell? ⟨w.heap.size, 11, none⟩ = some (.int .i64 0) := cell_of_row w1 _ 11 _ _ _ hA
  have a12 : w1.cell? ⟨w.heap.size, 12, none⟩ = some (.slice none 0 0) := cell_of_row w1 _ 12 _ _ _ hA
  have fA : ∀ j, w1.frozen? ⟨w.heap.size, j, none⟩ = false := fun j => frozen_of_row w1 _ j _ _ hA
  have HW : Hid (Below w.heap.size w w1) := below_tr ((Below.refl _ _).alloc (Nat.le_refl _) _) hb1
  clear hA hb1
  go_wp2
  (try simp only [Exit.inBlock, Exit.then])
  refine bodyPost_ret (v := .tuple #[.agg zeroCells13, .bool false]) ?_ ?_ ?_
  · rw [results_cell_tmp (fn := Try.f132) rfl]; simp [go_sem, zeroCells13, a0, a1, a2, a3, a4, a5, a6, a7, a8, a9, a10, a11, a12]
  · rfl
  · refine ⟨.inr ⟨HNO.out, .zero⟩, ?_⟩
    repeat (with_reducible refine Below.setCell ?_ (by exact Nat.le_refl _) _)
    exact HW.out
end Go.Proofs.Ytabpkohcimiceaa
