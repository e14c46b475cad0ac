import Derived.Test.YtabpkohcimiceabGreatLookC
import Derived.Test.YtabpkohcimiceabGreatOpen
import Derived.Test.YtabpkohcimiceabGreatKept
import Derived.Test.YtabpkohcimiceabGreatPowers
import Derived.Test.YtabpkohcimiceabGreatLaw
import Derived.Test.YtabpkohcimiceabGreatRecC
import Derived.WalkKit
import Derived.WalkSpells
import Derived.WalkLawsBesides
import Derived.OwnWalk
import Derived.Laws.ResultCell
import Derived.Laws.Rows
import Derived.Laws.StructEq
namespace Go.Proofs.YtabpkohcimiceabGreat
open Go.RowKit
set_option linter.unusedVariables false

/-! ### pawllaw.looked -/
theorem Tryz.viewUnder : Tryz.prog.underlying 58 = some (.struct (Tryz.prog.fieldsOf 58)) := by kernel_rfl
theorem Tryz.viewHeld : Tryz.prog.stoodInHeld 58 = false := by kernel_rfl
theorem Tryz.viewGuard : Tryz.prog.eqGuardType Tryz.prog.depth 58 = false := by kernel_rfl
/-- Two views that are one. -/
theorem view_eql (x0 x1 x2 x3 x4 x5 x6 x7 x8 : Int) (x9 : ByteArray) (w : World) : (Op.equalIn 10000 58 (.agg #[.int .i64 x0, .int .i64 x1, .int .i64 x2, .int .i64 x3, .int .i64 x4, .int .i64 x5, .int .i64 x6, .int .i64 x7, .int .i64 x8, .string x9]) (.agg #[.int .i64 x0, .int .i64 x1, .int .i64 x2, .int .i64 x3, .int .i64 x4, .int .i64 x5, .int .i64 x6, .int .i64 x7, .int .i64 x8, .string x9])).run Tryz.prog w = .ok true w := by
  have u3 := Tryz.underlying3
  have a3 := Tryz.isAgg3
  have z3 := Tryz.sizeOf3
  have u9 := Tryz.underlying9
  have a9 := Tryz.isAgg9
  have z9 := Tryz.sizeOf9
  rw [show (10000 : Nat) = 9999 + 1 from rfl, run_equalIn_agg w 9999 58 _ _ Tryz.viewUnder Tryz.viewHeld]
  simp only [Program.fieldsOf, Tryz.underlying58]
  go_simp

set_option maxRecDepth 100000 in
set_option maxHeartbeats 1000000 in
theorem looked_err (d : ByteArray) (w : World) (hd : d.size ≤ maxLen) (h : openErr d.data.toList ≠ 0) :
    Calls Tryz.prog 10 #[.string d] w fun e w' => e = .returned (.bool true) ∧ Below w.heap.size w w' := by
  have hI : (openErr d.data.toList == 0) = false := by rw [beq_eq_false_iff_ne]; exact h
  have c1 := fun w => look_any d w hd
  rw [lookV, if_neg h] at c1
  have c2 : ∀ w, Calls Tryz.prog 33 #[.string d] w fun e w' => e = .returned (.tuple #[.agg zeroCells13, .int .i64 0, .int .i64 (openErr d.data.toList)]) ∧ Below w.heap.size w w' := by
    intro w
    refine (refOpen_any d w hd).mono ?_
    rintro e w' ⟨q, hb⟩
    rcases q with ⟨q, _⟩ | ⟨_, q⟩
    · exact absurd q h
    · exact ⟨q, hb⟩
  have c3 : ∀ w, Calls Tryz.prog 35 #[.agg zeroCells13] w fun e w' => e = .returned (.string ⟨#[]⟩) ∧ Below w.heap.size w w' := fun w => refKept_any zeroS (.slice none 0 0) w (by decide) (fun e he => by simp [zeroS] at he) (.inl ⟨rfl, rfl⟩)
  have hbd := open_pos d.data.toList
  unfold zeroView at c1
  unfold zeroCells13 at c2 c3
  generalize openErr d.data.toList = er at *
  have kq := view_eql
  have kg := Tryz.viewGuard
  go_enter Tryz.func10, Tryz.ntmps10
  go_upto_region 9 with (first | (go_at_call 32; with_reducible refine (c1 _).mono ?_; rintro e w1 ⟨rfl, hb1⟩) | (go_at_call 33; with_reducible refine (c2 _).mono ?_; rintro e w2 ⟨rfl, hb2⟩) | (go_at_call 34; with_reducible refine (c4 _).mono ?_; rintro e w' ⟨rfl, hw⟩; rw [hw]; clear hw w') | go_in)
  have hsz2 := hb2.size
  have hsz1 := hb1.size
  simp at hsz2
  have hV2 := (hb2.block w1.heap.size (by simp)).trans (heap_alloc_new w1 _)
  have hS2 := heap_alloc_new w2 (.cells #[.int .i64 0, .int .i64 0, .int .i64 0, .int .i64 0, .int .i64 0, .int .i64 0, .int .i64 0, .string ⟨#[]⟩, .string ⟨#[]⟩, .string ⟨#[]⟩, .int .i64 0, .int .i64 0, .slice none 0 0] 63)
  have hV0 : ((w2.alloc (.cells #[.int .i64 0, .int .i64 0, .int .i64 0, .int .i64 0, .int .i64 0, .int .i64 0, .int .i64 0, .string ⟨#[]⟩, .string ⟨#[]⟩, .string ⟨#[]⟩, .int .i64 0, .int .i64 0, .slice none 0 0] 63)).alloc (.cells #[.int .i64 0, .int .i64 0, .int .i64 0, .int .i64 0, .int .i64 0, .int .i64 0, .int .i64 0, .int .i64 0, .int .i64 0, .string ⟨#[]⟩] 58)).heap[w1.heap.size]? = some (.cells #[.int .i64 0, .int .i64 0, .int .i64 0, .int .i64 0, .int .i64 0, .int .i64 0, .int .i64 0, .int .i64 0, .int .i64 0, .string ⟨#[]⟩] 58) := ((Below.heap_alloc _ _ _ (by simp; omega)).trans (Below.heap_alloc _ _ _ (by omega))).trans hV2
  have hS0 : ((w2.alloc (.cells #[.int .i64 0, .int .i64 0, .int .i64 0, .int .i64 0, .int .i64 0, .int .i64 0, .int .i64 0, .string ⟨#[]⟩, .string ⟨#[]⟩, .string ⟨#[]⟩, .int .i64 0, .int .i64 0, .slice none 0 0] 63)).alloc (.cells #[.int .i64 0, .int .i64 0, .int .i64 0, .int .i64 0, .int .i64 0, .int .i64 0, .int .i64 0, .int .i64 0, .int .i64 0, .string ⟨#[]⟩] 58)).heap[w2.heap.size]? = some (.cells #[.int .i64 0, .int .i64 0, .int .i64 0, .int .i64 0, .int .i64 0, .int .i64 0, .int .i64 0, .string ⟨#[]⟩, .string ⟨#[]⟩, .string ⟨#[]⟩, .int .i64 0, .int .i64 0, .slice none 0 0] 63) := (Below.heap_alloc _ _ _ (by simp)).trans hS2
  have hW0 : ((w2.alloc (.cells #[.int .i64 0, .int .i64 0, .int .i64 0, .int .i64 0, .int .i64 0, .int .i64 0, .int .i64 0, .string ⟨#[]⟩, .string ⟨#[]⟩, .string ⟨#[]⟩, .int .i64 0, .int .i64 0, .slice none 0 0] 63)).alloc (.cells #[.int .i64 0, .int .i64 0, .int .i64 0, .int .i64 0, .int .i64 0, .int .i64 0, .int .i64 0, .int .i64 0, .int .i64 0, .string ⟨#[]⟩] 58)).heap[w2.heap.size + 1]? = some (.cells #[.int .i64 0, .int .i64 0, .int .i64 0, .int .i64 0, .int .i64 0, .int .i64 0, .int .i64 0, .int .i64 0, .int .i64 0, .string ⟨#[]⟩] 58) := by
    have := heap_alloc_new (w2.alloc (.cells #[.int .i64 0, .int .i64 0, .int .i64 0, .int .i64 0, .int .i64 0, .int .i64 0, .int .i64 0, .string ⟨#[]⟩, .string ⟨#[]⟩, .string ⟨#[]⟩, .int .i64 0, .int .i64 0, .slice none 0 0] 63)) (.cells #[.int .i64 0, .int .i64 0, .int .i64 0, .int .i64 0, .int .i64 0, .int .i64 0, .int .i64 0, .int .i64 0, .int .i64 0, .string ⟨#[]⟩] 58)
    have e : (w2.alloc (.cells #[.int .i64 0, .int .i64 0, .int .i64 0, .int .i64 0, .int .i64 0, .int .i64 0, .int .i64 0, .string ⟨#[]⟩, .string ⟨#[]⟩, .string ⟨#[]⟩, .int .i64 0, .int .i64 0, .slice none 0 0] 63)).heap.size = w2.heap.size + 1 := by simp
    rw [e] at this
    exact this
  have hVx : ((w2.alloc (.cells #[.int .i64 0, .int .i64 0, .int .i64 0, .int .i64 0, .int .i64 0, .int .i64 0, .int .i64 0, .string ⟨#[]⟩, .string ⟨#[]⟩, .string ⟨#[]⟩, .int .i64 0, .int .i64 0, .slice none 0 0] 63)).alloc (.cells #[.int .i64 0, .int .i64 0, .int .i64 0, .int .i64 0, .int .i64 0, .int .i64 0, .int .i64 0, .int .i64 0, .int .i64 0, .string ⟨#[]⟩] 58)).heap[w1.heap.size]? = some (.cells #[.int .i64 0, .int .i64 0, .int .i64 0, .int .i64 0, .int .i64 0, .int .i64 0, .int .i64 0, .int .i64 0, .int .i64 0, .string ⟨#[]⟩] 58) := hV0
  have hSx : ((w2.alloc (.cells #[.int .i64 0, .int .i64 0, .int .i64 0, .int .i64 0, .int .i64 0, .int .i64 0, .int .i64 0, .string ⟨#[]⟩, .string ⟨#[]⟩, .string ⟨#[]⟩, .int .i64 0, .int .i64 0, .slice none 0 0] 63)).alloc (.cells #[.int .i64 0, .int .i64 0, .int .i64 0, .int .i64 0, .int .i64 0, .int .i64 0, .int .i64 0, .int .i64 0, .int .i64 0, .string ⟨#[]⟩] 58)).heap[w2.heap.size]? = some (.cells #[.int .i64 0, .int .i64 0, .int .i64 0, .int .i64 0, .int .i64 0, .int .i64 0, .int .i64 0, .string ⟨#[]⟩, .string ⟨#[]⟩, .string ⟨#[]⟩, .int .i64 0, .int .i64 0, .slice none 0 0] 63) := hS0
  have hWx : ((w2.alloc (.cells #[.int .i64 0, .int .i64 0, .int .i64 0, .int .i64 0, .int .i64 0, .int .i64 0, .int .i64 0, .string ⟨#[]⟩, .string ⟨#[]⟩, .string ⟨#[]⟩, .int .i64 0, .int .i64 0, .slice none 0 0] 63)).alloc (.cells #[.int .i64 0, .int .i64 0, .int .i64 0, .int .i64 0, .int .i64 0, .int .i64 0, .int .i64 0, .int .i64 0, .int .i64 0, .string ⟨#[]⟩] 58)).heap[w2.heap.size + 1]? = some (.cells #[.int .i64 0, .int .i64 0, .int .i64 0, .int .i64 0, .int .i64 0, .int .i64 0, .int .i64 0, .int .i64 0, .int .i64 0, .string ⟨#[]⟩] 58) := hW0
  have hBx : Below w.heap.size w ((w2.alloc (.cells #[.int .i64 0, .int .i64 0, .int .i64 0, .int .i64 0, .int .i64 0, .int .i64 0, .int .i64 0, .string ⟨#[]⟩, .string ⟨#[]⟩, .string ⟨#[]⟩, .int .i64 0, .int .i64 0, .slice none 0 0] 63)).alloc (.cells #[.int .i64 0, .int .i64 0, .int .i64 0, .int .i64 0, .int .i64 0, .int .i64 0, .int .i64 0, .int .i64 0, .int .i64 0, .string ⟨#[]⟩] 58)) := ((below_tr (hb1.alloc hb1.size _) hb2).alloc (by have := hb1.size; omega) _).alloc (by have := hb1.size; simp; omega) _
  skip
  have hlt : w2.heap.size + 1 < ((w2.alloc (.cells #[.int .i64 0, .int .i64 0, .int .i64 0, .int .i64 0, .int .i64 0, .int .i64 0, .int .i64 0, .string ⟨#[]⟩, .string ⟨#[]⟩, .string ⟨#[]⟩, .int .i64 0, .int .i64 0, .slice none 0 0] 63)).alloc (.cells #[.int .i64 0, .int .i64 0, .int .i64 0, .int .i64 0, .int .i64 0, .int .i64 0, .int .i64 0, .int .i64 0, .int .i64 0, .string ⟨#[]⟩] 58)).heap.size := by simp
  generalize ((w2.alloc (.cells #[.int .i64 0, .int .i64 0, .int .i64 0, .int .i64 0, .int .i64 0, .int .i64 0, .int .i64 0, .string ⟨#[]⟩, .string ⟨#[]⟩, .string ⟨#[]⟩, .int .i64 0, .int .i64 0, .slice none 0 0] 63)).alloc (.cells #[.int .i64 0, .int .i64 0, .int .i64 0, .int .i64 0, .int .i64 0, .int .i64 0, .int .i64 0, .int .i64 0, .int .i64 0, .string ⟨#[]⟩] 58)) = wx at hVx hSx hWx hBx hlt ⊢
  have HVx : Hid (wx.heap[w1.heap.size]? = some (.cells #[.int .i64 0, .int .i64 0, .int .i64 0, .int .i64 0, .int .i64 0, .int .i64 0, .int .i64 0, .int .i64 0, .int .i64 0, .string ⟨#[]⟩] 58)) := hVx
  have HWx : Hid (wx.heap[w2.heap.size + 1]? = some (.cells #[.int .i64 0, .int .i64 0, .int .i64 0, .int .i64 0, .int .i64 0, .int .i64 0, .int .i64 0, .int .i64 0, .int .i64 0, .string ⟨#[]⟩] 58)) := hWx
  have HBx : Hid (Below w.heap.size w wx) := hBx
  have k0 : wx.cell? ⟨w2.heap.size, 0, none⟩ = some (.int .i64 0) := cell_of_row wx _ 0 _ _ _ hSx
  have k1 : wx.cell? ⟨w2.heap.size, 1, none⟩ = some (.int .i64 0) := cell_of_row wx _ 1 _ _ _ hSx
  have k2 : wx.cell? ⟨w2.heap.size, 2, none⟩ = some (.int .i64 0) := cell_of_row wx _ 2 _ _ _ hSx
  have k3 : wx.cell? ⟨w2.heap.size, 3, none⟩ = some (.int .i64 0) := cell_of_row wx _ 3 _ _ _ hSx
  have k4 : wx.cell? ⟨w2.heap.size, 4, none⟩ = some (.int .i64 0) := cell_of_row wx _ 4 _ _ _ hSx
  have k5 : wx.cell? ⟨w2.heap.size, 5, none⟩ = some (.int .i64 0) := cell_of_row wx _ 5 _ _ _ hSx
  have k6 : wx.cell? ⟨w2.heap.size, 6, none⟩ = some (.int .i64 0) := cell_of_row wx _ 6 _ _ _ hSx
  have k7 : wx.cell? ⟨w2.heap.size, 7, none⟩ = some (.string ⟨#[]⟩) := cell_of_row wx _ 7 _ _ _ hSx
  have k8 : wx.cell? ⟨w2.heap.size, 8, none⟩ = some (.string ⟨#[]⟩) := cell_of_row wx _ 8 _ _ _ hSx
  have k9 : wx.cell? ⟨w2.heap.size, 9, none⟩ = some (.string ⟨#[]⟩) := cell_of_row wx _ 9 _ _ _ hSx
  have k10 : wx.cell? ⟨w2.heap.size, 10, none⟩ = some (.int .i64 0) := cell_of_row wx _ 10 _ _ _ hSx
  have k11 : wx.cell? ⟨w2.heap.size, 11, none⟩ = some (.int .i64 0) := cell_of_row wx _ 11 _ _ _ hSx
  have k12 : wx.cell? ⟨w2.heap.size, 12, none⟩ = some (.slice none 0 0) := cell_of_row wx _ 12 _ _ _ hSx
  clear hV2 hS2 hV0 hS0 hW0 hVx hSx hWx hBx hb1 hb2
  go_upto_region 10 with (first | (go_at_call 35; go_loud (with_reducible refine (c3 _).mono ?_); go_loud (rintro e w3 ⟨rfl, hb3⟩); go_loud (have hW3 := (hb3.block (w2.heap.size + 1) hlt).trans HWx.out); go_loud (have hV3 := (hb3.block w1.heap.size (by omega)).trans HVx.out); have q9 : w3.cell? ⟨w2.heap.size + 1, 9, none⟩ = some (.string ⟨#[]⟩) := cell_of_row w3 _ 9 _ _ _ hW3; have fW : ∀ j, w3.frozen? ⟨w2.heap.size + 1, j, none⟩ = false := fun j => frozen_of_row w3 _ j _ _ hW3; have HW3 : Hid (w3.heap[w2.heap.size + 1]? = some (.cells #[.int .i64 0, .int .i64 0, .int .i64 0, .int .i64 0, .int .i64 0, .int .i64 0, .int .i64 0, .int .i64 0, .int .i64 0, .string ⟨#[]⟩] 58)) := hW3; have HV3 : Hid (w3.heap[w1.heap.size]? = some (.cells #[.int .i64 0, .int .i64 0, .int .i64 0, .int .i64 0, .int .i64 0, .int .i64 0, .int .i64 0, .int .i64 0, .int .i64 0, .string ⟨#[]⟩] 58)) := hV3; have HB3 : Hid (Below w.heap.size w w3) := below_tr HBx.out hb3; clear hW3 hV3 hb3))
  have hW4 : (w3.setCell ⟨w2.heap.size + 1, 9, none⟩ (.string ⟨#[]⟩)).heap[w2.heap.size + 1]? = some (.cells #[.int .i64 0, .int .i64 0, .int .i64 0, .int .i64 0, .int .i64 0, .int .i64 0, .int .i64 0, .int .i64 0, .int .i64 0, .string ⟨#[]⟩] 58) := heap_setCell_same _ _ _ _ _ _ HW3.out
  have hV4 : (w3.setCell ⟨w2.heap.size + 1, 9, none⟩ (.string ⟨#[]⟩)).heap[w1.heap.size]? = some (.cells #[.int .i64 0, .int .i64 0, .int .i64 0, .int .i64 0, .int .i64 0, .int .i64 0, .int .i64 0, .int .i64 0, .int .i64 0, .string ⟨#[]⟩] 58) := (heap_setCell_other _ _ _ _ (by show w1.heap.size ≠ w2.heap.size + 1; omega)).trans HV3.out
  have hB4 : Below w.heap.size w (w3.setCell ⟨w2.heap.size + 1, 9, none⟩ (.string ⟨#[]⟩)) := HB3.out.setCell (by show w.heap.size ≤ w2.heap.size + 1; omega) _
  generalize (w3.setCell ⟨w2.heap.size + 1, 9, none⟩ (.string ⟨#[]⟩)) = wz at hW4 hV4 hB4 ⊢
  have HB4 : Hid (Below w.heap.size w wz) := hB4
  have u0 : wz.cell? ⟨w1.heap.size, 0, none⟩ = some (.int .i64 0) := cell_of_row wz _ 0 _ _ _ hV4
  have u1 : wz.cell? ⟨w1.heap.size, 1, none⟩ = some (.int .i64 0) := cell_of_row wz _ 1 _ _ _ hV4
  have u2 : wz.cell? ⟨w1.heap.size, 2, none⟩ = some (.int .i64 0) := cell_of_row wz _ 2 _ _ _ hV4
  have u3 : wz.cell? ⟨w1.heap.size, 3, none⟩ = some (.int .i64 0) := cell_of_row wz _ 3 _ _ _ hV4
  have u4 : wz.cell? ⟨w1.heap.size, 4, none⟩ = some (.int .i64 0) := cell_of_row wz _ 4 _ _ _ hV4
  have u5 : wz.cell? ⟨w1.heap.size, 5, none⟩ = some (.int .i64 0) := cell_of_row wz _ 5 _ _ _ hV4
  have u6 : wz.cell? ⟨w1.heap.size, 6, none⟩ = some (.int .i64 0) := cell_of_row wz _ 6 _ _ _ hV4
  have u7 : wz.cell? ⟨w1.heap.size, 7, none⟩ = some (.int .i64 0) := cell_of_row wz _ 7 _ _ _ hV4
  have u8 : wz.cell? ⟨w1.heap.size, 8, none⟩ = some (.int .i64 0) := cell_of_row wz _ 8 _ _ _ hV4
  have u9 : wz.cell? ⟨w1.heap.size, 9, none⟩ = some (.string ⟨#[]⟩) := cell_of_row wz _ 9 _ _ _ hV4
  have y0 : wz.cell? ⟨w2.heap.size + 1, 0, none⟩ = some (.int .i64 0) := cell_of_row wz _ 0 _ _ _ hW4
  have y1 : wz.cell? ⟨w2.heap.size + 1, 1, none⟩ = some (.int .i64 0) := cell_of_row wz _ 1 _ _ _ hW4
  have y2 : wz.cell? ⟨w2.heap.size + 1, 2, none⟩ = some (.int .i64 0) := cell_of_row wz _ 2 _ _ _ hW4
  have y3 : wz.cell? ⟨w2.heap.size + 1, 3, none⟩ = some (.int .i64 0) := cell_of_row wz _ 3 _ _ _ hW4
  have y4 : wz.cell? ⟨w2.heap.size + 1, 4, none⟩ = some (.int .i64 0) := cell_of_row wz _ 4 _ _ _ hW4
  have y5 : wz.cell? ⟨w2.heap.size + 1, 5, none⟩ = some (.int .i64 0) := cell_of_row wz _ 5 _ _ _ hW4
  have y6 : wz.cell? ⟨w2.heap.size + 1, 6, none⟩ = some (.int .i64 0) := cell_of_row wz _ 6 _ _ _ hW4
  have y7 : wz.cell? ⟨w2.heap.size + 1, 7, none⟩ = some (.int .i64 0) := cell_of_row wz _ 7 _ _ _ hW4
  have y8 : wz.cell? ⟨w2.heap.size + 1, 8, none⟩ = some (.int .i64 0) := cell_of_row wz _ 8 _ _ _ hW4
  have y9 : wz.cell? ⟨w2.heap.size + 1, 9, none⟩ = some (.string ⟨#[]⟩) := cell_of_row wz _ 9 _ _ _ hW4
  clear hW4 hV4 hB4
  go_wp2
  go_ret
  exact ⟨rfl, HB4.out⟩

set_option maxRecDepth 100000 in
set_option maxHeartbeats 1000000 in
theorem looked_good (d : ByteArray) (w : World) (hd : d.size ≤ maxLen) (h : openErr d.data.toList = 0) :
    Calls Tryz.prog 10 #[.string d] w fun e w' => e = .returned (.bool true) ∧ Below w.heap.size w w' := by
  obtain ⟨kk, hg⟩ := open_good _ h
  obtain ⟨gl, gk⟩ := good_lawQ hg
  have hsec := gl.sec
  have hck := hg.kept
  have hcc := hg.cap
  have c1 := fun w => look_any d w hd
  rw [lookV, if_pos h, h] at c1
  have c2 : ∀ w, Calls Tryz.prog 33 #[.string d] w fun e w' => (∃ (a : Option Addr) (n c : Nat), e = .returned (.tuple #[.agg (stCells (heldS d.data.toList) (.slice a n c)), .int .i64 (liveL d.data.toList : Int), .int .i64 0]) ∧ w'.ownsRow w.heap.size 119 3 (.slice a n c) (heldS d.data.toList).kept.length (entsCells (heldS d.data.toList).kept)) ∧ Below w.heap.size w w' := by
    intro w
    refine (refOpen_any d w hd).mono ?_
    rintro e w' ⟨q, hb⟩
    rcases q with ⟨_, q⟩ | ⟨q, _⟩
    · exact ⟨q, hb⟩
    · exact absurd h q
  have c3 := fun v w hv => refKept_any (heldS d.data.toList) v w (by omega) hg.ok.keys hv
  have c4 : ∀ w, Calls Tryz.prog 34 #[.int .i64 ((heldS d.data.toList).secret : Int)] w fun e w' => e = .returned (.tuple #[.int .i64 (pwN 7 (heldS d.data.toList).secret : Int), .int .i64 0]) ∧ w' = w := by
    intro w
    have := refPublic_any ((heldS d.data.toList).secret : Int) w
    rw [shOut, if_pos ⟨hsec, by unfold Pub; omega⟩, shErr, if_pos ⟨hsec, by unfold Pub; omega⟩, pw, Int.toNat_natCast] at this
    exact this
  unfold viewCells at c1
  unfold stCells at c2 c3
  generalize heldS d.data.toList = ss at *
  generalize liveL d.data.toList = lv at *
  generalize pwN 7 ss.secret = pn at *
  generalize str (lettersL ss.kept) = lt at *
  clear h hg gl gk hsec hck hcc
  have kq := view_eql
  have kg := Tryz.viewGuard
  go_enter Tryz.func10, Tryz.ntmps10
  go_upto_region 9 with (first | (go_at_call 32; with_reducible refine (c1 _).mono ?_; rintro e w1 ⟨rfl, hb1⟩) | (go_at_call 33; with_reducible refine (c2 _).mono ?_; rintro e w2 ⟨⟨aa, nn, cc, rfl, hown⟩, hb2⟩) | (go_at_call 34; with_reducible refine (c4 _).mono ?_; rintro e w' ⟨rfl, hw⟩; rw [hw]; clear hw w') | go_in)
  have hsz2 := hb2.size
  have hsz1 := hb1.size
  simp at hsz2
  have hV2 := (hb2.block w1.heap.size (by simp)).trans (heap_alloc_new w1 _)
  have hS2 := heap_alloc_new w2 (.cells #[.int .i64 (ss.role : Int), .int .i64 (ss.step : Int), .int .i64 (ss.sent : Int), .int .i64 (ss.got : Int), .int .i64 (ss.prev : Int), .int .i64 (ss.skip : Int), .int .i64 (ss.cap : Int), .string (str ss.root), .string (str ss.out), .string (str ss.inn), .int .i64 (ss.secret : Int), .int .i64 (ss.peer : Int), .slice aa nn cc] 63)
  have hV0 : ((w2.alloc (.cells #[.int .i64 (ss.role : Int), .int .i64 (ss.step : Int), .int .i64 (ss.sent : Int), .int .i64 (ss.got : Int), .int .i64 (ss.prev : Int), .int .i64 (ss.skip : Int), .int .i64 (ss.cap : Int), .string (str ss.root), .string (str ss.out), .string (str ss.inn), .int .i64 (ss.secret : Int), .int .i64 (ss.peer : Int), .slice aa nn cc] 63)).alloc (.cells #[.int .i64 (ss.role : Int), .int .i64 (ss.step : Int), .int .i64 (ss.sent : Int), .int .i64 (ss.got : Int), .int .i64 (ss.prev : Int), .int .i64 (ss.skip : Int), .int .i64 (ss.cap : Int), .int .i64 (pn : Int), .int .i64 (ss.peer : Int), .string ⟨#[]⟩] 58)).heap[w1.heap.size]? = some (.cells #[.int .i64 (ss.role : Int), .int .i64 (ss.step : Int), .int .i64 (ss.sent : Int), .int .i64 (ss.got : Int), .int .i64 (ss.prev : Int), .int .i64 (ss.skip : Int), .int .i64 (ss.cap : Int), .int .i64 (pn : Int), .int .i64 (ss.peer : Int), .string lt] 58) := ((Below.heap_alloc _ _ _ (by simp; omega)).trans (Below.heap_alloc _ _ _ (by omega))).trans hV2
  have hS0 : ((w2.alloc (.cells #[.int .i64 (ss.role : Int), .int .i64 (ss.step : Int), .int .i64 (ss.sent : Int), .int .i64 (ss.got : Int), .int .i64 (ss.prev : Int), .int .i64 (ss.skip : Int), .int .i64 (ss.cap : Int), .string (str ss.root), .string (str ss.out), .string (str ss.inn), .int .i64 (ss.secret : Int), .int .i64 (ss.peer : Int), .slice aa nn cc] 63)).alloc (.cells #[.int .i64 (ss.role : Int), .int .i64 (ss.step : Int), .int .i64 (ss.sent : Int), .int .i64 (ss.got : Int), .int .i64 (ss.prev : Int), .int .i64 (ss.skip : Int), .int .i64 (ss.cap : Int), .int .i64 (pn : Int), .int .i64 (ss.peer : Int), .string ⟨#[]⟩] 58)).heap[w2.heap.size]? = some (.cells #[.int .i64 (ss.role : Int), .int .i64 (ss.step : Int), .int .i64 (ss.sent : Int), .int .i64 (ss.got : Int), .int .i64 (ss.prev : Int), .int .i64 (ss.skip : Int), .int .i64 (ss.cap : Int), .string (str ss.root), .string (str ss.out), .string (str ss.inn), .int .i64 (ss.secret : Int), .int .i64 (ss.peer : Int), .slice aa nn cc] 63) := (Below.heap_alloc _ _ _ (by simp)).trans hS2
  have hW0 : ((w2.alloc (.cells #[.int .i64 (ss.role : Int), .int .i64 (ss.step : Int), .int .i64 (ss.sent : Int), .int .i64 (ss.got : Int), .int .i64 (ss.prev : Int), .int .i64 (ss.skip : Int), .int .i64 (ss.cap : Int), .string (str ss.root), .string (str ss.out), .string (str ss.inn), .int .i64 (ss.secret : Int), .int .i64 (ss.peer : Int), .slice aa nn cc] 63)).alloc (.cells #[.int .i64 (ss.role : Int), .int .i64 (ss.step : Int), .int .i64 (ss.sent : Int), .int .i64 (ss.got : Int), .int .i64 (ss.prev : Int), .int .i64 (ss.skip : Int), .int .i64 (ss.cap : Int), .int .i64 (pn : Int), .int .i64 (ss.peer : Int), .string ⟨#[]⟩] 58)).heap[w2.heap.size + 1]? = some (.cells #[.int .i64 (ss.role : Int), .int .i64 (ss.step : Int), .int .i64 (ss.sent : Int), .int .i64 (ss.got : Int), .int .i64 (ss.prev : Int), .int .i64 (ss.skip : Int), .int .i64 (ss.cap : Int), .int .i64 (pn : Int), .int .i64 (ss.peer : Int), .string ⟨#[]⟩] 58) := by
    have := heap_alloc_new (w2.alloc (.cells #[.int .i64 (ss.role : Int), .int .i64 (ss.step : Int), .int .i64 (ss.sent : Int), .int .i64 (ss.got : Int), .int .i64 (ss.prev : Int), .int .i64 (ss.skip : Int), .int .i64 (ss.cap : Int), .string (str ss.root), .string (str ss.out), .string (str ss.inn), .int .i64 (ss.secret : Int), .int .i64 (ss.peer : Int), .slice aa nn cc] 63)) (.cells #[.int .i64 (ss.role : Int), .int .i64 (ss.step : Int), .int .i64 (ss.sent : Int), .int .i64 (ss.got : Int), .int .i64 (ss.prev : Int), .int .i64 (ss.skip : Int), .int .i64 (ss.cap : Int), .int .i64 (pn : Int), .int .i64 (ss.peer : Int), .string ⟨#[]⟩] 58)
    have e : (w2.alloc (.cells #[.int .i64 (ss.role : Int), .int .i64 (ss.step : Int), .int .i64 (ss.sent : Int), .int .i64 (ss.got : Int), .int .i64 (ss.prev : Int), .int .i64 (ss.skip : Int), .int .i64 (ss.cap : Int), .string (str ss.root), .string (str ss.out), .string (str ss.inn), .int .i64 (ss.secret : Int), .int .i64 (ss.peer : Int), .slice aa nn cc] 63)).heap.size = w2.heap.size + 1 := by simp
    rw [e] at this
    exact this
  have hVx : ((w2.alloc (.cells #[.int .i64 (ss.role : Int), .int .i64 (ss.step : Int), .int .i64 (ss.sent : Int), .int .i64 (ss.got : Int), .int .i64 (ss.prev : Int), .int .i64 (ss.skip : Int), .int .i64 (ss.cap : Int), .string (str ss.root), .string (str ss.out), .string (str ss.inn), .int .i64 (ss.secret : Int), .int .i64 (ss.peer : Int), .slice aa nn cc] 63)).alloc (.cells #[.int .i64 (ss.role : Int), .int .i64 (ss.step : Int), .int .i64 (ss.sent : Int), .int .i64 (ss.got : Int), .int .i64 (ss.prev : Int), .int .i64 (ss.skip : Int), .int .i64 (ss.cap : Int), .int .i64 (pn : Int), .int .i64 (ss.peer : Int), .string ⟨#[]⟩] 58)).heap[w1.heap.size]? = some (.cells #[.int .i64 (ss.role : Int), .int .i64 (ss.step : Int), .int .i64 (ss.sent : Int), .int .i64 (ss.got : Int), .int .i64 (ss.prev : Int), .int .i64 (ss.skip : Int), .int .i64 (ss.cap : Int), .int .i64 (pn : Int), .int .i64 (ss.peer : Int), .string lt] 58) := hV0
  have hSx : ((w2.alloc (.cells #[.int .i64 (ss.role : Int), .int .i64 (ss.step : Int), .int .i64 (ss.sent : Int), .int .i64 (ss.got : Int), .int .i64 (ss.prev : Int), .int .i64 (ss.skip : Int), .int .i64 (ss.cap : Int), .string (str ss.root), .string (str ss.out), .string (str ss.inn), .int .i64 (ss.secret : Int), .int .i64 (ss.peer : Int), .slice aa nn cc] 63)).alloc (.cells #[.int .i64 (ss.role : Int), .int .i64 (ss.step : Int), .int .i64 (ss.sent : Int), .int .i64 (ss.got : Int), .int .i64 (ss.prev : Int), .int .i64 (ss.skip : Int), .int .i64 (ss.cap : Int), .int .i64 (pn : Int), .int .i64 (ss.peer : Int), .string ⟨#[]⟩] 58)).heap[w2.heap.size]? = some (.cells #[.int .i64 (ss.role : Int), .int .i64 (ss.step : Int), .int .i64 (ss.sent : Int), .int .i64 (ss.got : Int), .int .i64 (ss.prev : Int), .int .i64 (ss.skip : Int), .int .i64 (ss.cap : Int), .string (str ss.root), .string (str ss.out), .string (str ss.inn), .int .i64 (ss.secret : Int), .int .i64 (ss.peer : Int), .slice aa nn cc] 63) := hS0
  have hWx : ((w2.alloc (.cells #[.int .i64 (ss.role : Int), .int .i64 (ss.step : Int), .int .i64 (ss.sent : Int), .int .i64 (ss.got : Int), .int .i64 (ss.prev : Int), .int .i64 (ss.skip : Int), .int .i64 (ss.cap : Int), .string (str ss.root), .string (str ss.out), .string (str ss.inn), .int .i64 (ss.secret : Int), .int .i64 (ss.peer : Int), .slice aa nn cc] 63)).alloc (.cells #[.int .i64 (ss.role : Int), .int .i64 (ss.step : Int), .int .i64 (ss.sent : Int), .int .i64 (ss.got : Int), .int .i64 (ss.prev : Int), .int .i64 (ss.skip : Int), .int .i64 (ss.cap : Int), .int .i64 (pn : Int), .int .i64 (ss.peer : Int), .string ⟨#[]⟩] 58)).heap[w2.heap.size + 1]? = some (.cells #[.int .i64 (ss.role : Int), .int .i64 (ss.step : Int), .int .i64 (ss.sent : Int), .int .i64 (ss.got : Int), .int .i64 (ss.prev : Int), .int .i64 (ss.skip : Int), .int .i64 (ss.cap : Int), .int .i64 (pn : Int), .int .i64 (ss.peer : Int), .string ⟨#[]⟩] 58) := hW0
  have hBx : Below w.heap.size w ((w2.alloc (.cells #[.int .i64 (ss.role : Int), .int .i64 (ss.step : Int), .int .i64 (ss.sent : Int), .int .i64 (ss.got : Int), .int .i64 (ss.prev : Int), .int .i64 (ss.skip : Int), .int .i64 (ss.cap : Int), .string (str ss.root), .string (str ss.out), .string (str ss.inn), .int .i64 (ss.secret : Int), .int .i64 (ss.peer : Int), .slice aa nn cc] 63)).alloc (.cells #[.int .i64 (ss.role : Int), .int .i64 (ss.step : Int), .int .i64 (ss.sent : Int), .int .i64 (ss.got : Int), .int .i64 (ss.prev : Int), .int .i64 (ss.skip : Int), .int .i64 (ss.cap : Int), .int .i64 (pn : Int), .int .i64 (ss.peer : Int), .string ⟨#[]⟩] 58)) := ((below_tr (hb1.alloc hb1.size _) hb2).alloc (by have := hb1.size; omega) _).alloc (by have := hb1.size; simp; omega) _
  have hEx : EntsAt ((w2.alloc (.cells #[.int .i64 (ss.role : Int), .int .i64 (ss.step : Int), .int .i64 (ss.sent : Int), .int .i64 (ss.got : Int), .int .i64 (ss.prev : Int), .int .i64 (ss.skip : Int), .int .i64 (ss.cap : Int), .string (str ss.root), .string (str ss.out), .string (str ss.inn), .int .i64 (ss.secret : Int), .int .i64 (ss.peer : Int), .slice aa nn cc] 63)).alloc (.cells #[.int .i64 (ss.role : Int), .int .i64 (ss.step : Int), .int .i64 (ss.sent : Int), .int .i64 (ss.got : Int), .int .i64 (ss.prev : Int), .int .i64 (ss.skip : Int), .int .i64 (ss.cap : Int), .int .i64 (pn : Int), .int .i64 (ss.peer : Int), .string ⟨#[]⟩] 58)) (.slice aa nn cc) ss.kept := EntsAt.of_own ((hown.alloc _).alloc _)
  have hlt : w2.heap.size + 1 < ((w2.alloc (.cells #[.int .i64 (ss.role : Int), .int .i64 (ss.step : Int), .int .i64 (ss.sent : Int), .int .i64 (ss.got : Int), .int .i64 (ss.prev : Int), .int .i64 (ss.skip : Int), .int .i64 (ss.cap : Int), .string (str ss.root), .string (str ss.out), .string (str ss.inn), .int .i64 (ss.secret : Int), .int .i64 (ss.peer : Int), .slice aa nn cc] 63)).alloc (.cells #[.int .i64 (ss.role : Int), .int .i64 (ss.step : Int), .int .i64 (ss.sent : Int), .int .i64 (ss.got : Int), .int .i64 (ss.prev : Int), .int .i64 (ss.skip : Int), .int .i64 (ss.cap : Int), .int .i64 (pn : Int), .int .i64 (ss.peer : Int), .string ⟨#[]⟩] 58)).heap.size := by simp
  generalize ((w2.alloc (.cells #[.int .i64 (ss.role : Int), .int .i64 (ss.step : Int), .int .i64 (ss.sent : Int), .int .i64 (ss.got : Int), .int .i64 (ss.prev : Int), .int .i64 (ss.skip : Int), .int .i64 (ss.cap : Int), .string (str ss.root), .string (str ss.out), .string (str ss.inn), .int .i64 (ss.secret : Int), .int .i64 (ss.peer : Int), .slice aa nn cc] 63)).alloc (.cells #[.int .i64 (ss.role : Int), .int .i64 (ss.step : Int), .int .i64 (ss.sent : Int), .int .i64 (ss.got : Int), .int .i64 (ss.prev : Int), .int .i64 (ss.skip : Int), .int .i64 (ss.cap : Int), .int .i64 (pn : Int), .int .i64 (ss.peer : Int), .string ⟨#[]⟩] 58)) = wx at hVx hSx hWx hBx hlt hEx ⊢
  have HVx : Hid (wx.heap[w1.heap.size]? = some (.cells #[.int .i64 (ss.role : Int), .int .i64 (ss.step : Int), .int .i64 (ss.sent : Int), .int .i64 (ss.got : Int), .int .i64 (ss.prev : Int), .int .i64 (ss.skip : Int), .int .i64 (ss.cap : Int), .int .i64 (pn : Int), .int .i64 (ss.peer : Int), .string lt] 58)) := hVx
  have HWx : Hid (wx.heap[w2.heap.size + 1]? = some (.cells #[.int .i64 (ss.role : Int), .int .i64 (ss.step : Int), .int .i64 (ss.sent : Int), .int .i64 (ss.got : Int), .int .i64 (ss.prev : Int), .int .i64 (ss.skip : Int), .int .i64 (ss.cap : Int), .int .i64 (pn : Int), .int .i64 (ss.peer : Int), .string ⟨#[]⟩] 58)) := hWx
  have HBx : Hid (Below w.heap.size w wx) := hBx
  have k0 : wx.cell? ⟨w2.heap.size, 0, none⟩ = some (.int .i64 (ss.role : Int)) := cell_of_row wx _ 0 _ _ _ hSx
  have k1 : wx.cell? ⟨w2.heap.size, 1, none⟩ = some (.int .i64 (ss.step : Int)) := cell_of_row wx _ 1 _ _ _ hSx
  have k2 : wx.cell? ⟨w2.heap.size, 2, none⟩ = some (.int .i64 (ss.sent : Int)) := cell_of_row wx _ 2 _ _ _ hSx
  have k3 : wx.cell? ⟨w2.heap.size, 3, none⟩ = some (.int .i64 (ss.got : Int)) := cell_of_row wx _ 3 _ _ _ hSx
  have k4 : wx.cell? ⟨w2.heap.size, 4, none⟩ = some (.int .i64 (ss.prev : Int)) := cell_of_row wx _ 4 _ _ _ hSx
  have k5 : wx.cell? ⟨w2.heap.size, 5, none⟩ = some (.int .i64 (ss.skip : Int)) := cell_of_row wx _ 5 _ _ _ hSx
  have k6 : wx.cell? ⟨w2.heap.size, 6, none⟩ = some (.int .i64 (ss.cap : Int)) := cell_of_row wx _ 6 _ _ _ hSx
  have k7 : wx.cell? ⟨w2.heap.size, 7, none⟩ = some (.string (str ss.root)) := cell_of_row wx _ 7 _ _ _ hSx
  have k8 : wx.cell? ⟨w2.heap.size, 8, none⟩ = some (.string (str ss.out)) := cell_of_row wx _ 8 _ _ _ hSx
  have k9 : wx.cell? ⟨w2.heap.size, 9, none⟩ = some (.string (str ss.inn)) := cell_of_row wx _ 9 _ _ _ hSx
  have k10 : wx.cell? ⟨w2.heap.size, 10, none⟩ = some (.int .i64 (ss.secret : Int)) := cell_of_row wx _ 10 _ _ _ hSx
  have k11 : wx.cell? ⟨w2.heap.size, 11, none⟩ = some (.int .i64 (ss.peer : Int)) := cell_of_row wx _ 11 _ _ _ hSx
  have k12 : wx.cell? ⟨w2.heap.size, 12, none⟩ = some (.slice aa nn cc) := cell_of_row wx _ 12 _ _ _ hSx
  clear hV2 hS2 hV0 hS0 hW0 hVx hSx hWx hBx hb1 hb2
  go_upto_region 10 with (first | (go_at_call 35; go_loud (with_reducible refine (c3 _ _ hEx).mono ?_); go_loud (rintro e w3 ⟨rfl, hb3⟩); go_loud (have hW3 := (hb3.block (w2.heap.size + 1) hlt).trans HWx.out); go_loud (have hV3 := (hb3.block w1.heap.size (by omega)).trans HVx.out); have q9 : w3.cell? ⟨w2.heap.size + 1, 9, none⟩ = some (.string ⟨#[]⟩) := cell_of_row w3 _ 9 _ _ _ hW3; have fW : ∀ j, w3.frozen? ⟨w2.heap.size + 1, j, none⟩ = false := fun j => frozen_of_row w3 _ j _ _ hW3; have HW3 : Hid (w3.heap[w2.heap.size + 1]? = some (.cells #[.int .i64 (ss.role : Int), .int .i64 (ss.step : Int), .int .i64 (ss.sent : Int), .int .i64 (ss.got : Int), .int .i64 (ss.prev : Int), .int .i64 (ss.skip : Int), .int .i64 (ss.cap : Int), .int .i64 (pn : Int), .int .i64 (ss.peer : Int), .string ⟨#[]⟩] 58)) := hW3; have HV3 : Hid (w3.heap[w1.heap.size]? = some (.cells #[.int .i64 (ss.role : Int), .int .i64 (ss.step : Int), .int .i64 (ss.sent : Int), .int .i64 (ss.got : Int), .int .i64 (ss.prev : Int), .int .i64 (ss.skip : Int), .int .i64 (ss.cap : Int), .int .i64 (pn : Int), .int .i64 (ss.peer : Int), .string lt] 58)) := hV3; have HB3 : Hid (Below w.heap.size w w3) := below_tr HBx.out hb3; clear hW3 hV3 hb3))
  have hW4 : (w3.setCell ⟨w2.heap.size + 1, 9, none⟩ (.string lt)).heap[w2.heap.size + 1]? = some (.cells #[.int .i64 (ss.role : Int), .int .i64 (ss.step : Int), .int .i64 (ss.sent : Int), .int .i64 (ss.got : Int), .int .i64 (ss.prev : Int), .int .i64 (ss.skip : Int), .int .i64 (ss.cap : Int), .int .i64 (pn : Int), .int .i64 (ss.peer : Int), .string lt] 58) := heap_setCell_same _ _ _ _ _ _ HW3.out
  have hV4 : (w3.setCell ⟨w2.heap.size + 1, 9, none⟩ (.string lt)).heap[w1.heap.size]? = some (.cells #[.int .i64 (ss.role : Int), .int .i64 (ss.step : Int), .int .i64 (ss.sent : Int), .int .i64 (ss.got : Int), .int .i64 (ss.prev : Int), .int .i64 (ss.skip : Int), .int .i64 (ss.cap : Int), .int .i64 (pn : Int), .int .i64 (ss.peer : Int), .string lt] 58) := (heap_setCell_other _ _ _ _ (by show w1.heap.size ≠ w2.heap.size + 1; omega)).trans HV3.out
  have hB4 : Below w.heap.size w (w3.setCell ⟨w2.heap.size + 1, 9, none⟩ (.string lt)) := HB3.out.setCell (by show w.heap.size ≤ w2.heap.size + 1; omega) _
  generalize (w3.setCell ⟨w2.heap.size + 1, 9, none⟩ (.string lt)) = wz at hW4 hV4 hB4 ⊢
  have HB4 : Hid (Below w.heap.size w wz) := hB4
  have u0 : wz.cell? ⟨w1.heap.size, 0, none⟩ = some (.int .i64 (ss.role : Int)) := cell_of_row wz _ 0 _ _ _ hV4
  have u1 : wz.cell? ⟨w1.heap.size, 1, none⟩ = some (.int .i64 (ss.step : Int)) := cell_of_row wz _ 1 _ _ _ hV4
  have u2 : wz.cell? ⟨w1.heap.size, 2, none⟩ = some (.int .i64 (ss.sent : Int)) := cell_of_row wz _ 2 _ _ _ hV4
  have u3 : wz.cell? ⟨w1.heap.size, 3, none⟩ = some (.int .i64 (ss.got : Int)) := cell_of_row wz _ 3 _ _ _ hV4
  have u4 : wz.cell? ⟨w1.heap.size, 4, none⟩ = some (.int .i64 (ss.prev : Int)) := cell_of_row wz _ 4 _ _ _ hV4
  have u5 : wz.cell? ⟨w1.heap.size, 5, none⟩ = some (.int .i64 (ss.skip : Int)) := cell_of_row wz _ 5 _ _ _ hV4
  have u6 : wz.cell? ⟨w1.heap.size, 6, none⟩ = some (.int .i64 (ss.cap : Int)) := cell_of_row wz _ 6 _ _ _ hV4
  have u7 : wz.cell? ⟨w1.heap.size, 7, none⟩ = some (.int .i64 (pn : Int)) := cell_of_row wz _ 7 _ _ _ hV4
  have u8 : wz.cell? ⟨w1.heap.size, 8, none⟩ = some (.int .i64 (ss.peer : Int)) := cell_of_row wz _ 8 _ _ _ hV4
  have u9 : wz.cell? ⟨w1.heap.size, 9, none⟩ = some (.string lt) := cell_of_row wz _ 9 _ _ _ hV4
  have y0 : wz.cell? ⟨w2.heap.size + 1, 0, none⟩ = some (.int .i64 (ss.role : Int)) := cell_of_row wz _ 0 _ _ _ hW4
  have y1 : wz.cell? ⟨w2.heap.size + 1, 1, none⟩ = some (.int .i64 (ss.step : Int)) := cell_of_row wz _ 1 _ _ _ hW4
  have y2 : wz.cell? ⟨w2.heap.size + 1, 2, none⟩ = some (.int .i64 (ss.sent : Int)) := cell_of_row wz _ 2 _ _ _ hW4
  have y3 : wz.cell? ⟨w2.heap.size + 1, 3, none⟩ = some (.int .i64 (ss.got : Int)) := cell_of_row wz _ 3 _ _ _ hW4
  have y4 : wz.cell? ⟨w2.heap.size + 1, 4, none⟩ = some (.int .i64 (ss.prev : Int)) := cell_of_row wz _ 4 _ _ _ hW4
  have y5 : wz.cell? ⟨w2.heap.size + 1, 5, none⟩ = some (.int .i64 (ss.skip : Int)) := cell_of_row wz _ 5 _ _ _ hW4
  have y6 : wz.cell? ⟨w2.heap.size + 1, 6, none⟩ = some (.int .i64 (ss.cap : Int)) := cell_of_row wz _ 6 _ _ _ hW4
  have y7 : wz.cell? ⟨w2.heap.size + 1, 7, none⟩ = some (.int .i64 (pn : Int)) := cell_of_row wz _ 7 _ _ _ hW4
  have y8 : wz.cell? ⟨w2.heap.size + 1, 8, none⟩ = some (.int .i64 (ss.peer : Int)) := cell_of_row wz _ 8 _ _ _ hW4
  have y9 : wz.cell? ⟨w2.heap.size + 1, 9, none⟩ = some (.string lt) := cell_of_row wz _ 9 _ _ _ hW4
  clear hW4 hV4 hB4
  go_wp2
  go_ret
  exact ⟨rfl, HB4.out⟩
theorem looked_any (d : ByteArray) (w : World) (hd : d.size ≤ maxLen) :
    Calls Tryz.prog 10 #[.string d] w fun e w' => e = .returned (.bool true) ∧ Below w.heap.size w w' := by
  by_cases h : openErr d.data.toList = 0
  · exact looked_good d w hd h
  · exact looked_err d w hd h
end Go.Proofs.YtabpkohcimiceabGreat

namespace Go.Proofs.YtabpkohcimiceabGreat
open Go.RowKit
set_option linter.unusedVariables false

theorem repairR_bd (d : List UInt8) : 0 ≤ (repairR d).2 ∧ (repairR d).2 ≤ 12 := by
  rw [repairR]; repeat' split
  all_goals simp
theorem changesL_length (a b : List UInt8) (lo hi : Nat) : (changesL a b lo hi).length ≤ (hi - lo) * 33 + 1 := by
  have := chgB_length a b lo (hi - lo)
  rw [changesL]; split
  · simp
  · rw [List.length_append]; simp; omega

set_option maxRecDepth 100000 in
set_option maxHeartbeats 1000000 in
theorem looks_walk (a0 : ByteArray) (a1 : Int) (a2 : ByteArray) (w0 : a0.size ≤ maxLen) (w1 : (Lit.int .i64 a1).wf = true) (w2 : a2.size ≤ maxLen) (w : World) :
    Calls Tryz.prog 26 #[.string a0, .int .i64 a1, .string a2] w fun e w' => e = .returned (.bool true) ∧ Below w.heap.size w w' := by
  have w1' : -9223372036854775808 ≤ a1 ∧ a1 ≤ 9223372036854775807 := by
    simp [Lit.wf, IntKind.min, IntKind.max, IntKind.signed, IntKind.bits] at w1
    omega
  obtain ⟨n0, n1⟩ := w1'
  obtain ⟨e0, e1⟩ := repairR_bd a0.data.toList
  have c1 := fun w => looked_any a0 w w0
  have c2 := fun w => pawlRecover_any a0 w w0
  have c3 := fun w => repair_any a0 w w0
  by_cases hok : (repairR a0.data.toList).2 = 0
  · have hD : isDiskL a0.data.toList = true := by
      cases hD : isDiskL a0.data.toList with
      | true => rfl
      | false => rw [repairR, if_neg (by rw [hD]; simp)] at hok; simp at hok
    obtain ⟨k, hk, hk1, hk2⟩ := disk_factsD hD
    have hdl := len_list a0
    have hplan : recPlan a0.data.toList = encL (changesR a0.data.toList (repairR a0.data.toList).1 0 k) := by
      rw [recPlan, if_pos hok, hdl, hk, show k * 32 / 32 = k by omega, changesL_enc]
    have hrp : repairR a0.data.toList = ((repairR a0.data.toList).1, 0) := by rw [← hok]
    obtain ⟨r1, r2, r3⟩ := rec_safe a0.data.toList (repairR a0.data.toList).1 k (by rw [hdl, hk]) hk1 hk2 hrp
    have hps : (str (encL (changesR a0.data.toList (repairR a0.data.toList).1 0 k))).size ≤ maxLen := by
      rw [str_size, ← changesL_enc]
      have := changesL_length a0.data.toList (repairR a0.data.toList).1 0 k
      unfold maxLen; omega
    have c5 := fun w => safe_any a0 (str (repairR a0.data.toList).1) (str (repairR a0.data.toList).1) (str (encL (changesR a0.data.toList (repairR a0.data.toList).1 0 k))) (changesR a0.data.toList (repairR a0.data.toList).1 0 k) k a1 a2 w hD hk hk2 hps (by rw [str_toList]; exact r1) n0 n1 w2 (by rw [str_toList]; exact r2) (by rw [str_toList]; exact fun m kq hm => .inl (r3 m kq hm))
    rw [hplan, hok] at c2
    rw [hok] at c3
    generalize str (encL (changesR a0.data.toList (repairR a0.data.toList).1 0 k)) = pl at *
    generalize str (repairR a0.data.toList).1 = tt at *
    clear r1 r2 r3 hplan hok hrp hD hps e0 e1
    go_enter Tryz.func26, Tryz.ntmps26
    go_wp2_with (first | (go_at_call 10; with_reducible refine (c1 _).mono ?_; rintro e x0 ⟨rfl, hb0⟩) | (go_at_call 27; with_reducible refine (c2 _).mono ?_; rintro e x1 ⟨rfl, hb1⟩) | (go_at_call 63; with_reducible refine (c3 _).mono ?_; rintro e x2 ⟨rfl, hb2⟩) | (go_at_call 52; with_reducible refine (c5 _).mono ?_; rintro e x3 ⟨rfl, hb3⟩) | go_in)
    go_ret
    exact ⟨rfl, below_tr (below_tr (below_tr hb0 hb1) hb2) hb3⟩
  · have hp : recPlan a0.data.toList = [] := by rw [recPlan, if_neg hok]
    rw [hp] at c2
    generalize str (repairR a0.data.toList).1 = tt at *
    generalize (repairR a0.data.toList).2 = E at *
    have hokB : (E == 0) = false := by rw [beq_eq_false_iff_ne]; exact hok
    have c2' : ∀ w, Calls Tryz.prog 27 #[.string a0] w fun e w' => e = .returned (.tuple #[.string ⟨#[]⟩, .int .i64 E]) ∧ Below w.heap.size w w' := c2
    clear hp c2
    go_enter Tryz.func26, Tryz.ntmps26
    go_wp2_with (first | (go_at_call 10; with_reducible refine (c1 _).mono ?_; rintro e x0 ⟨rfl, hb0⟩) | (go_at_call 27; with_reducible refine (c2' _).mono ?_; rintro e x1 ⟨rfl, hb1⟩) | (go_at_call 63; with_reducible refine (c3 _).mono ?_; rintro e x2 ⟨rfl, hb2⟩) | go_in)
    go_ret
    exact ⟨rfl, below_tr (below_tr hb0 hb1) hb2⟩
end Go.Proofs.YtabpkohcimiceabGreat
