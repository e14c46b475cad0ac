import Derived.Test.YtabpkohcimiceabGreatFindA
import Derived.Test.YtabpkohcimiceabGreatCre
import Derived.WalkKit
import Derived.WalkSpells
import Derived.WalkLawsBesides
import Derived.OwnWalk
import Derived.Laws.ResultCell
import Derived.Deep.RegionWith
namespace Go.Proofs.YtabpkohcimiceabGreat
open Go.RowKit
set_option linter.unusedVariables false

/-! ### Package store: what is found on a disk -/
def stateCells (sort : Int) (rep : List UInt8) (lv : Nat) (ss : StM) (a : Option Addr) (n c : Nat) : Array Value := #[.int .i64 sort, .string (str rep), .int .i64 (lv : Int), .int .i64 (ss.role : Int), .int .i64 (ss.step : Int), .int .i64 (ss.sent : Int), .int .i64 (ss.got : Int), .int .i64 (ss.prev : Int), .int .i64 (ss.skip : Int), .int .i64 (ss.cap : Int), .string (str ss.root), .string (str ss.out), .string (str ss.inn), .int .i64 (ss.secret : Int), .int .i64 (ss.peer : Int), .slice a n c]
def repL (d : List UInt8) : List UInt8 := if d.take 32 = List.replicate 32 0 then List.replicate d.length 0 else if heldOk d then packL (heldS d) (liveL d) d.length else []
def sortL (d : List UInt8) : Int := if d = List.replicate d.length 0 then 1 else if d.take 32 = List.replicate 32 0 then 2 else if heldOk d then (if d = packL (heldS d) (liveL d) d.length then 3 else 2) else 0
def FindOut (d : List UInt8) (base : Nat) (w' : World) (e : Ending) : Prop := ∃ (ss : StM) (lv : Nat) (a : Option Addr) (n c : Nat), e = .returned (.agg (stateCells (sortL d) (repL d) lv ss a n c)) ∧ (sortL d = 3 → ss = heldS d ∧ lv = liveL d ∧ w'.ownsRow base 154 3 (.slice a n c) ss.kept.length (entsCells ss.kept))
theorem nought_below (n : Int) (w : World) (h1 : n ≤ 1000000) :
    Calls Tryz.prog 104 #[.int .i64 n] w fun e w' => e = .returned (.string (str (List.replicate n.toNat 0))) ∧ Below w.heap.size w w' := by
  refine (noughts_dev n w h1).mono ?_
  rintro e w' ⟨he, rfl | ⟨c, rfl⟩⟩
  · exact ⟨he, Below.refl _ _⟩
  · exact ⟨he, (Below.refl _ _).alloc (Nat.le_refl _) _⟩

set_option maxRecDepth 100000 in
set_option maxHeartbeats 1000000 in
theorem find_zero (d : ByteArray) (k : Nat) (w : World) (hk : d.size = k * 32) (hk1 : 1 ≤ k) (hk2 : k ≤ 40) (h : d.data.toList.take 32 = List.replicate 32 0) :
    Calls Tryz.prog 64 #[.string d] w fun e w' => FindOut d.data.toList w.heap.size w' e ∧ Below w.heap.size w w' := by
  have hdl := len_list d
  have cz := fun w => nought_below ((k : Int) * 32) w (by omega)
  rw [show ((k : Int) * 32).toNat = k * 32 by omega] at cz
  have hbq := str_beq2 d (List.replicate (k * 32) 0)
  have hrep : repL d.data.toList = List.replicate (k * 32) 0 := by rw [repL, if_pos h, hdl, hk]
  by_cases hz : d.data.toList = List.replicate (k * 32) 0
  · rw [decide_eq_true hz] at hbq
    have hs : sortL d.data.toList = 1 := by rw [sortL, if_pos (by rw [hdl, hk]; exact hz)]
    have HF : Hid (∀ w', FindOut d.data.toList w.heap.size w' (.returned (.agg (stateCells 1 (List.replicate (k * 32) 0) 0 zeroS none 0 0)))) := fun w' => ⟨zeroS, 0, none, 0, 0, by rw [hs, hrep], fun q => by rw [hs] at q; omega⟩
    obtain ⟨zz, hzz⟩ : ∃ z, z = str (List.replicate (k * 32) (0 : UInt8)) := ⟨_, rfl⟩
    rw [← hzz] at cz hbq
    have HZ : Hid (zz = str (List.replicate (k * 32) (0 : UInt8))) := hzz
    clear hs hz h hrep hzz
    go_enter Tryz.func64, Tryz.ntmps64
    go_upto_region 3 with (first | (go_at_call 104; refine (cz _).mono ?_; rintro e w1 ⟨rfl, hb1⟩))
    have hA := (hb1.block w.heap.size (by simp)).trans (heap_alloc_new w _)
    have a0 : w1.cell? ⟨w.heap.size, 0, none⟩ = some (.int .i64 0) := cell_of_row w1 _ 0 _ _ _ hA
    have a1 : w1.cell? ⟨w.heap.size, 1, none⟩ = some (.string ⟨#[]⟩) := cell_of_row w1 _ 1 _ _ _ hA
    have a2 : w1.cell? ⟨w.heap.size, 2, none⟩ = some (.int .i64 0) := cell_of_row w1 _ 2 _ _ _ hA
    have a3 : w1.cell? ⟨w.heap.size, 3, none⟩ = some (.int .i64 0) := cell_of_row w1 _ 3 _ _ _ hA
    have a4 : w1.cell? ⟨w.heap.size, 4, none⟩ = some (.int .i64 0) := cell_of_row w1 _ 4 _ _ _ hA
    have a5 : w1.cell? ⟨w.heap.size, 5, none⟩ = some (.int .i64 0) := cell_of_row w1 _ 5 _ _ _ hA
    have a6 : w1.cell? ⟨w.heap.size, 6, none⟩ = some (.int .i64 0) := cell_of_row w1 _ 6 _ _ _ hA
    have a7 : w1.cell? ⟨w.heap.size, 7, none⟩ = some (.int .i64 0) := cell_of_row w1 _ 7 _ _ _ hA
    have a8 : w1.cell? ⟨w.heap.size, 8, none⟩ = some (.int .i64 0) := cell_of_row w1 _ 8 _ _ _ hA
    have a9 : w1.cell? ⟨w.heap.size, 9, none⟩ = some (.int .i64 0) := cell_of_row w1 _ 9 _ _ _ hA
    have a10 : w1.cell? ⟨w.heap.size, 10, none⟩ = some (.string ⟨#[]⟩) := cell_of_row w1 _ 10 _ _ _ hA
    have a11 : w1.cell? ⟨w.heap.size, 11, none⟩ = some (.string ⟨#[]⟩) := cell_of_row w1 _ 11 _ _ _ hA
    have a12 : w1.cell? ⟨w.heap.size, 12, none⟩ = some (.string ⟨#[]⟩) := cell_of_row w1 _ 12 _ _ _ hA
    have a13 : w1.cell? ⟨w.heap.size, 13, none⟩ = some (.int .i64 0) := cell_of_row w1 _ 13 _ _ _ hA
    have a14 : w1.cell? ⟨w.heap.size, 14, none⟩ = some (.int .i64 0) := cell_of_row w1 _ 14 _ _ _ hA
    have a15 : w1.cell? ⟨w.heap.size, 15, none⟩ = some (.slice none 0 0) := cell_of_row w1 _ 15 _ _ _ hA
    have fA : ∀ j, w1.frozen? ⟨w.heap.size, j, none⟩ = false := fun j => frozen_of_row w1 _ j _ _ hA
    have HW : Hid (Below w.heap.size w w1) := below_tr ((Below.refl _ _).alloc (Nat.le_refl _) _) hb1
    clear hA hb1 cz
    go_wp2
    (try simp only [Exit.inBlock, Exit.then])
    refine bodyPost_ret (v := .agg (stateCells 1 (List.replicate (k * 32) 0) 0 zeroS none 0 0)) ?_ ?_ ?_
    · simp [results, go_sem, stateCells, zeroS, HZ.out, a0, a1, a2, a3, a4, a5, a6, a7, a8, a9, a10, a11, a12, a13, a14, a15]
      try rfl
    · rfl
    · refine ⟨HF.out _, ?_⟩
      repeat (with_reducible refine Below.setCell ?_ (by exact Nat.le_refl _) _)
      exact HW.out
  · rw [decide_eq_false hz] at hbq
    have hs : sortL d.data.toList = 2 := by rw [sortL, if_neg (by rw [hdl, hk]; exact hz), if_pos h]
    have HF : Hid (∀ w', FindOut d.data.toList w.heap.size w' (.returned (.agg (stateCells 2 (List.replicate (k * 32) 0) 0 zeroS none 0 0)))) := fun w' => ⟨zeroS, 0, none, 0, 0, by rw [hs, hrep], fun q => by rw [hs] at q; omega⟩
    have c0 : ∀ w, Calls Tryz.prog 105 #[.string d, .int .i64 0] w fun e w' => e = .returned (.string (str (d.data.toList.take 32))) ∧ w' = w := fun w => by
      have := sector_any d k 0 w (by omega) hk (by omega)
      rw [secL] at this
      exact this
    have cn := fun w => isNoughts_any (str (d.data.toList.take 32)) w (by rw [str_size, List.length_take]; unfold maxLen; omega)
    rw [str_toList, str_size, h, List.length_replicate, decide_eq_true rfl] at cn
    rw [h] at c0
    obtain ⟨zz, hzz⟩ : ∃ z, z = str (List.replicate (k * 32) (0 : UInt8)) := ⟨_, rfl⟩
    rw [← hzz] at cz hbq
    have HZ : Hid (zz = str (List.replicate (k * 32) (0 : UInt8))) := hzz
    clear hs hz h hrep hzz
    generalize str (List.replicate 32 (0 : UInt8)) = z32 at *
    go_enter Tryz.func64, Tryz.ntmps64
    go_upto_region 5 with (first | (go_at_call 104; refine (cz _).mono ?_; rintro e w1 ⟨rfl, hb1⟩) | (go_at_call 105; with_reducible refine (c0 _).mono ?_; rintro e w' ⟨rfl, hw⟩; rw [hw]; clear hw w') | (go_at_call 58; with_reducible refine (cn _).mono ?_; rintro e w' ⟨rfl, hw⟩; rw [hw]; clear hw w'))
    have hA := (hb1.block w.heap.size (by simp)).trans (heap_alloc_new w _)
    have a0 : w1.cell? ⟨w.heap.size, 0, none⟩ = some (.int .i64 0) := cell_of_row w1 _ 0 _ _ _ hA
    have a1 : w1.cell? ⟨w.heap.size, 1, none⟩ = some (.string ⟨#[]⟩) := cell_of_row w1 _ 1 _ _ _ hA
    have a2 : w1.cell? ⟨w.heap.size, 2, none⟩ = some (.int .i64 0) := cell_of_row w1 _ 2 _ _ _ hA
    have a3 : w1.cell? ⟨w.heap.size, 3, none⟩ = some (.int .i64 0) := cell_of_row w1 _ 3 _ _ _ hA
    have a4 : w1.cell? ⟨w.heap.size, 4, none⟩ = some (.int .i64 0) := cell_of_row w1 _ 4 _ _ _ hA
    have a5 : w1.cell? ⟨w.heap.size, 5, none⟩ = some (.int .i64 0) := cell_of_row w1 _ 5 _ _ _ hA
    have a6 : w1.cell? ⟨w.heap.size, 6, none⟩ = some (.int .i64 0) := cell_of_row w1 _ 6 _ _ _ hA
    have a7 : w1.cell? ⟨w.heap.size, 7, none⟩ = some (.int .i64 0) := cell_of_row w1 _ 7 _ _ _ hA
    have a8 : w1.cell? ⟨w.heap.size, 8, none⟩ = some (.int .i64 0) := cell_of_row w1 _ 8 _ _ _ hA
    have a9 : w1.cell? ⟨w.heap.size, 9, none⟩ = some (.int .i64 0) := cell_of_row w1 _ 9 _ _ _ hA
    have a10 : w1.cell? ⟨w.heap.size, 10, none⟩ = some (.string ⟨#[]⟩) := cell_of_row w1 _ 10 _ _ _ hA
    have a11 : w1.cell? ⟨w.heap.size, 11, none⟩ = some (.string ⟨#[]⟩) := cell_of_row w1 _ 11 _ _ _ hA
    have a12 : w1.cell? ⟨w.heap.size, 12, none⟩ = some (.string ⟨#[]⟩) := cell_of_row w1 _ 12 _ _ _ hA
    have a13 : w1.cell? ⟨w.heap.size, 13, none⟩ = some (.int .i64 0) := cell_of_row w1 _ 13 _ _ _ hA
    have a14 : w1.cell? ⟨w.heap.size, 14, none⟩ = some (.int .i64 0) := cell_of_row w1 _ 14 _ _ _ hA
    have a15 : w1.cell? ⟨w.heap.size, 15, none⟩ = some (.slice none 0 0) := cell_of_row w1 _ 15 _ _ _ hA
    have fA : ∀ j, w1.frozen? ⟨w.heap.size, j, none⟩ = false := fun j => frozen_of_row w1 _ j _ _ hA
    have HW : Hid (Below w.heap.size w w1) := below_tr ((Below.refl _ _).alloc (Nat.le_refl _) _) hb1
    clear hA hb1 cz
    go_wp2
    (try simp only [Exit.inBlock, Exit.then])
    refine bodyPost_ret (v := .agg (stateCells 2 (List.replicate (k * 32) 0) 0 zeroS none 0 0)) ?_ ?_ ?_
    · simp [results, go_sem, stateCells, zeroS, HZ.out, a0, a1, a2, a3, a4, a5, a6, a7, a8, a9, a10, a11, a12, a13, a14, a15]
      try rfl
    · rfl
    · refine ⟨HF.out _, ?_⟩
      repeat (with_reducible refine Below.setCell ?_ (by exact Nat.le_refl _) _)
      exact HW.out
end Go.Proofs.YtabpkohcimiceabGreat
