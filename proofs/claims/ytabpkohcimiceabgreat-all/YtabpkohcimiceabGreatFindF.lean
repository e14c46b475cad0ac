import Derived.Test.YtabpkohcimiceabGreatFindE
import Derived.WalkKit
import Derived.WalkSpells
import Derived.WalkLawsBesides
import Derived.OwnWalk
import Derived.Laws.ResultCell
import Derived.Deep.RegionWith
import Derived.Deep.DeepCutAuto
namespace Go.Proofs.YtabpkohcimiceabGreat
open Go.RowKit
set_option linter.unusedVariables false

set_option maxRecDepth 100000 in
set_option maxHeartbeats 1000000 in
theorem find_bad (d : ByteArray) (k : Nat) (w : World) (hk : d.size = k * 32) (hk1 : 1 ≤ k) (hk2 : k ≤ 40) (h : ¬ d.data.toList.take 32 = List.replicate 32 0) (hno : ¬ heldOk d.data.toList) :
    Calls Tryz.prog 64 #[.string d] w fun e w' => FindOut d.data.toList w.heap.size w' e ∧ Below w.heap.size w w' := by
  have hdl := len_list d
  have cz := fun w => nought_below ((k : Int) * 32) w (by omega)
  have hbq := str_beq2 d (List.replicate (k * 32) 0)
  have hz : ¬ d.data.toList = List.replicate (k * 32) 0 := by
    intro e
    apply h
    rw [e, List.take_replicate, Nat.min_eq_left (by omega)]
  rw [show ((k : Int) * 32).toNat = k * 32 by omega] at cz
  rw [decide_eq_false hz] at hbq
  have c0 : ∀ w, Calls Tryz.prog 105 #[.string d, .int .i64 0] w fun e w' => e = .returned (.string (str (d.data.toList.take 32))) ∧ w' = w := fun w => by
    have := sector_any d k 0 w (by omega) hk (by omega)
    rw [secL] at this
    exact this
  have cn := fun w => isNoughts_any (str (d.data.toList.take 32)) w (by rw [str_size, List.length_take]; unfold maxLen; omega)
  have ht32 : (d.data.toList.take 32).length = 32 := by rw [List.length_take]; omega
  rw [str_toList, str_size, ht32, decide_eq_false h] at cn
  have c5 : ∀ w, Calls Tryz.prog 106 #[.string d, .int .i64 5] w fun e w' => e = .returned (.int .i64 ((d.data.toList.getD 5 0).toNat : Int)) ∧ w' = w := fun w => tbyte_any d 5 w (by unfold maxLen; omega) (by omega)
  have cr := fun w => storeRead_any d k w hk hk1 hk2
  have hs0 : d.data.toList ≠ List.replicate d.data.toList.length 0 := by rw [hdl, hk]; exact hz
  generalize str (List.replicate (k * 32) (0 : UInt8)) = zz at *
  generalize str (d.data.toList.take 32) = z32 at *
  have hrep : repL d.data.toList = [] := by rw [repL, if_neg h, if_neg hno]
  have hs : sortL d.data.toList = 0 := by rw [sortL, if_neg hs0, if_neg h, if_neg hno]
  have HF : Hid (∀ w', FindOut d.data.toList w.heap.size w' (.returned (.agg (stateCells 0 [] 0 zeroS none 0 0)))) := fun w' => ⟨zeroS, 0, none, 0, 0, by rw [hs, hrep], fun q => by rw [hs] at q; omega⟩
  have cr2 : ∀ w, Calls Tryz.prog 107 #[.string d, .int .i64 ((d.data.toList.getD 5 0).toNat : Int)] w fun e w' => (∃ (ss : StM) (aa : Option Addr) (nn cc : Nat), e = .returned (.tuple #[.agg #[.int .i64 (ss.role : Int), .int .i64 (ss.step : Int), .int .i64 (ss.sent : Int), .int .i64 (ss.got : Int), .int .i64 (ss.prev : Int), .int .i64 (ss.skip : Int), .int .i64 (ss.cap : Int), .string (str ss.root), .string (str ss.out), .string (str ss.inn), .int .i64 (ss.secret : Int), .int .i64 (ss.peer : Int), .slice aa nn cc], .bool false])) ∧ Below w.heap.size w w' := by
    intro w
    refine (cr w).mono ?_
    rintro e w' ⟨hq, hb⟩
    rcases hq with ⟨hq, _⟩ | ⟨_, hq⟩
    · exact absurd hq hno
    · exact ⟨hq, hb⟩
  generalize (d.data.toList.getD 5 0).toNat = x5 at *
  clear hs hs0 hz h hrep hno cr ht32
  go_enter Tryz.func64, Tryz.ntmps64
  go_upto_region 9 with (first | (go_at_call 104; refine (cz _).mono ?_; rintro e w1 ⟨rfl, hb1⟩) | (go_at_call 105; with_reducible refine (c0 _).mono ?_; rintro e w' ⟨rfl, hw⟩; rw [hw]; clear hw w') | (go_at_call 58; with_reducible refine (cn _).mono ?_; rintro e w' ⟨rfl, hw⟩; rw [hw]; clear hw w') | (go_at_call 106; with_reducible refine (c5 _).mono ?_; rintro e w' ⟨rfl, hw⟩; rw [hw]; clear hw w') | (go_at_call 107; with_reducible refine (cr2 _).mono ?_; rintro e w2 ⟨⟨ss, aa, nn, cc, rfl⟩, hb2⟩))
  have hsz1 := hb1.size
  simp at hsz1
  have hsz2 := hb2.size
  have hA1 := (hb1.block w.heap.size (by simp)).trans (heap_alloc_new w _)
  have hA2 := (hb2.block w.heap.size (by omega)).trans hA1
  have HW : Hid (Below w.heap.size w w2) := below_tr (below_tr ((Below.refl _ _).alloc (Nat.le_refl _) _) hb1) hb2
  have a0 : w2.cell? ⟨w.heap.size, 0, none⟩ = some (.int .i64 0) := cell_of_row w2 _ 0 _ _ _ hA2
  have a1 : w2.cell? ⟨w.heap.size, 1, none⟩ = some (.string ⟨#[]⟩) := cell_of_row w2 _ 1 _ _ _ hA2
  have a2 : w2.cell? ⟨w.heap.size, 2, none⟩ = some (.int .i64 0) := cell_of_row w2 _ 2 _ _ _ hA2
  have a3 : w2.cell? ⟨w.heap.size, 3, none⟩ = some (.int .i64 0) := cell_of_row w2 _ 3 _ _ _ hA2
  have a4 : w2.cell? ⟨w.heap.size, 4, none⟩ = some (.int .i64 0) := cell_of_row w2 _ 4 _ _ _ hA2
  have a5 : w2.cell? ⟨w.heap.size, 5, none⟩ = some (.int .i64 0) := cell_of_row w2 _ 5 _ _ _ hA2
  have a6 : w2.cell? ⟨w.heap.size, 6, none⟩ = some (.int .i64 0) := cell_of_row w2 _ 6 _ _ _ hA2
  have a7 : w2.cell? ⟨w.heap.size, 7, none⟩ = some (.int .i64 0) := cell_of_row w2 _ 7 _ _ _ hA2
  have a8 : w2.cell? ⟨w.heap.size, 8, none⟩ = some (.int .i64 0) := cell_of_row w2 _ 8 _ _ _ hA2
  have a9 : w2.cell? ⟨w.heap.size, 9, none⟩ = some (.int .i64 0) := cell_of_row w2 _ 9 _ _ _ hA2
  have a10 : w2.cell? ⟨w.heap.size, 10, none⟩ = some (.string ⟨#[]⟩) := cell_of_row w2 _ 10 _ _ _ hA2
  have a11 : w2.cell? ⟨w.heap.size, 11, none⟩ = some (.string ⟨#[]⟩) := cell_of_row w2 _ 11 _ _ _ hA2
  have a12 : w2.cell? ⟨w.heap.size, 12, none⟩ = some (.string ⟨#[]⟩) := cell_of_row w2 _ 12 _ _ _ hA2
  have a13 : w2.cell? ⟨w.heap.size, 13, none⟩ = some (.int .i64 0) := cell_of_row w2 _ 13 _ _ _ hA2
  have a14 : w2.cell? ⟨w.heap.size, 14, none⟩ = some (.int .i64 0) := cell_of_row w2 _ 14 _ _ _ hA2
  have a15 : w2.cell? ⟨w.heap.size, 15, none⟩ = some (.slice none 0 0) := cell_of_row w2 _ 15 _ _ _ hA2
  have fA : ∀ j, w2.frozen? ⟨w.heap.size, j, none⟩ = false := fun j => frozen_of_row w2 _ j _ _ hA2
  have hlt2 : w.heap.size < w2.heap.size := by omega
  clear hA1 hA2 hb1 hb2 cz cr2 c0 cn c5
  go_wp2
  (try simp only [Exit.inBlock, Exit.then])
  refine bodyPost_ret (v := .agg (stateCells 0 [] 0 zeroS none 0 0)) ?_ ?_ ?_
  · simp [results, go_sem, stateCells, zeroS, hlt2, a0, a1, a2, a3, a4, a5, a6, a7, a8, a9, a10, a11, a12, a13, a14, a15]
    rfl
  · rfl
  · refine ⟨HF.out _, ?_⟩
    repeat (first | (with_reducible refine Below.setCell ?_ (by exact Nat.le_refl _) _) | (with_reducible refine Below.alloc ?_ (by simp; omega) _))
    first | exact HW.out | exact HW.out.alloc HW.out.size _
end Go.Proofs.YtabpkohcimiceabGreat
