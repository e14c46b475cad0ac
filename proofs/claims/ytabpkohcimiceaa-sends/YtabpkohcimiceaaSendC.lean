import Derived.Test.YtabpkohcimiceaaLink
import Derived.Test.YtabpkohcimiceaaBoxE
import Derived.Test.YtabpkohcimiceaaSeal
import Derived.WalkKit
import Derived.WalkSpells
import Derived.WalkLawsBesides
import Derived.OwnWalk
import Derived.Laws.ResultCell
import Derived.Laws.Rows
import Derived.Deep.RegionWith
import Derived.Deep.RegionHeld3
import Derived.Deep.DeepMust
import Derived.Deep.DeepCutAuto
namespace Go.Proofs.Ytabpkohcimiceaa
open Go.RowKit
set_option linter.unusedVariables false

/-! ### talk.Send -/
theorem results_tmp_cell {fn : Func} {p u : Tmp} {ty : TypeId} (h : fn.results = #[.tmp u, .cell p ty]) (tmps : Array Value) (P : Program) (w : World) :
    (results fn tmps).run P w =
      ((asAddr (tmps.getD p undef)).run P w).andThen fun a w₁ => ((loadVar ty a).run P w₁).andThen fun v w₂ => .ok (.tuple #[tmps.getD u undef, v]) w₂ := by
  simp only [results, h]
  simp [Sem.run_bind, Result.andThen]
theorem Below.undrew {n : Nat} {w w' : World} (h : Below n w.drew w') : Below n w w' := ⟨h.os, h.tape, h.output, h.size, h.block⟩
def letL (s : StM) (t : List UInt8) : List UInt8 := headB s.step s.sent s.prev (pwN 7 s.secret) ++ sealL (keyK s.out) (headB s.step s.sent s.prev (pwN 7 s.secret)) t

set_option maxRecDepth 100000 in
set_option maxHeartbeats 1000000 in
theorem talkSend_any (s : StM) (aa : Option Addr) (nn cc : Nat) (t : ByteArray) (w : World) (hs : StOk s) (hsec : s.secret < 2147483647) (ht : t.size ≤ 40) :
    Calls Try.prog 98 #[.agg #[.int .i64 (s.role : Int), .int .i64 (s.step : Int), .int .i64 (s.sent : Int), .int .i64 (s.got : Int), .int .i64 (s.prev : Int), .int .i64 (s.skip : Int), .int .i64 (s.cap : Int), .string (str s.root), .string (str s.out), .string (str s.inn), .int .i64 (s.secret : Int), .int .i64 (s.peer : Int), .slice aa nn cc], .string t] w fun e w' => e = .returned (.tuple #[.string (str (letL s t.data.toList)), .agg (stCells (sendS s) (.slice aa nn cc))]) ∧ Below w.heap.size w w' := by
  have ho := hs.out
  have h1 := hs.step
  have h2 := hs.sent
  have h4 := hs.prev
  have hp := pwN_lt 7 s.secret
  have c1 := fun w => devPublic_any s.secret w hsec
  have c2 := fun w => head_any s.step s.sent s.prev (pwN 7 s.secret) w h1 h2 h4 (by omega)
  have c3 := fun w => link_any (str s.out) w (by rw [str_size]; exact ho)
  have c4 := fun w => keysSeal_any (str (keyK s.out)) (str (headB s.step s.sent s.prev (pwN 7 s.secret))) t w (by rw [str_size, keyK_length]; unfold maxLen; omega) (by rw [str_size, headB_length]; omega) (by omega)
  rw [str_toList] at c3
  rw [str_toList, str_toList] at c4
  have hL : Hid (str (letL s t.data.toList) = str (headB s.step s.sent s.prev (pwN 7 s.secret)) ++ str (sealL (keyK s.out) (headB s.step s.sent s.prev (pwN 7 s.secret)) t.data.toList)) := by
    show _ = _
    rw [letL, str_append]
  have z1 : (str (headB s.step s.sent s.prev (pwN 7 s.secret))).size = 7 := by rw [str_size, headB_length]
  have z2 : (str (sealL (keyK s.out) (headB s.step s.sent s.prev (pwN 7 s.secret)) t.data.toList)).size = t.size + 8 := by rw [str_size, sealL_length, len_list]
  have hS : Hid (stCells (sendS s) (.slice aa nn cc) = #[.int .i64 (s.role : Int), .int .i64 (s.step : Int), .int .i64 ((s.sent : Int) + 1), .int .i64 (s.got : Int), .int .i64 (s.prev : Int), .int .i64 (s.skip : Int), .int .i64 (s.cap : Int), .string (str s.root), .string (str (nextK s.out)), .string (str s.inn), .int .i64 (s.secret : Int), .int .i64 (s.peer : Int), .slice aa nn cc]) := rfl
  rw [hL.out, hS.out]
  clear hL hS hs ho
  generalize str (sealL (keyK s.out) (headB s.step s.sent s.prev (pwN 7 s.secret)) t.data.toList) = sl at *
  generalize str (headB s.step s.sent s.prev (pwN 7 s.secret)) = hd at *
  generalize str (keyK s.out) = ky at *
  generalize str (nextK s.out) = nx at *
  generalize pwN 7 s.secret = pn at *
  go_enter Try.func98, Try.ntmps98
  go_upto_region 1 with fail
  have hB : ((w.alloc (.cells #[.int .i64 (s.role : Int), .int .i64 (s.step : Int), .int .i64 (s.sent : Int), .int .i64 (s.got : Int), .int .i64 (s.prev : Int), .int .i64 (s.skip : Int), .int .i64 (s.cap : Int), .string (str s.root), .string (str s.out), .string (str s.inn), .int .i64 (s.secret : Int), .int .i64 (s.peer : Int), .slice aa nn cc] 106)).alloc (.cells #[.int .i64 0, .int .i64 0, .int .i64 0, .int .i64 0, .int .i64 0, .int .i64 0, .int .i64 0, .string ⟨#[]⟩, .string ⟨#[]⟩, .string ⟨#[]⟩, .int .i64 0, .int .i64 0, .slice none 0 0] 106)).heap[w.heap.size]? = some (.cells #[.int .i64 (s.role : Int), .int .i64 (s.step : Int), .int .i64 (s.sent : Int), .int .i64 (s.got : Int), .int .i64 (s.prev : Int), .int .i64 (s.skip : Int), .int .i64 (s.cap : Int), .string (str s.root), .string (str s.out), .string (str s.inn), .int .i64 (s.secret : Int), .int .i64 (s.peer : Int), .slice aa nn cc] 106) := (Below.heap_alloc _ _ _ (by simp)).trans (heap_alloc_new w _)
  have hR : ((w.alloc (.cells #[.int .i64 (s.role : Int), .int .i64 (s.step : Int), .int .i64 (s.sent : Int), .int .i64 (s.got : Int), .int .i64 (s.prev : Int), .int .i64 (s.skip : Int), .int .i64 (s.cap : Int), .string (str s.root), .string (str s.out), .string (str s.inn), .int .i64 (s.secret : Int), .int .i64 (s.peer : Int), .slice aa nn cc] 106)).alloc (.cells #[.int .i64 0, .int .i64 0, .int .i64 0, .int .i64 0, .int .i64 0, .int .i64 0, .int .i64 0, .string ⟨#[]⟩, .string ⟨#[]⟩, .string ⟨#[]⟩, .int .i64 0, .int .i64 0, .slice none 0 0] 106)).heap[w.heap.size + 1]? = some (.cells #[.int .i64 0, .int .i64 0, .int .i64 0, .int .i64 0, .int .i64 0, .int .i64 0, .int .i64 0, .string ⟨#[]⟩, .string ⟨#[]⟩, .string ⟨#[]⟩, .int .i64 0, .int .i64 0, .slice none 0 0] 106) := by
    have := heap_alloc_new (w.alloc (.cells #[.int .i64 (s.role : Int), .int .i64 (s.step : Int), .int .i64 (s.sent : Int), .int .i64 (s.got : Int), .int .i64 (s.prev : Int), .int .i64 (s.skip : Int), .int .i64 (s.cap : Int), .string (str s.root), .string (str s.out), .string (str s.inn), .int .i64 (s.secret : Int), .int .i64 (s.peer : Int), .slice aa nn cc] 106)) (.cells #[.int .i64 0, .int .i64 0, .int .i64 0, .int .i64 0, .int .i64 0, .int .i64 0, .int .i64 0, .string ⟨#[]⟩, .string ⟨#[]⟩, .string ⟨#[]⟩, .int .i64 0, .int .i64 0, .slice none 0 0] 106)
    simpa using this
  have hW : Below w.heap.size w ((w.alloc (.cells #[.int .i64 (s.role : Int), .int .i64 (s.step : Int), .int .i64 (s.sent : Int), .int .i64 (s.got : Int), .int .i64 (s.prev : Int), .int .i64 (s.skip : Int), .int .i64 (s.cap : Int), .string (str s.root), .string (str s.out), .string (str s.inn), .int .i64 (s.secret : Int), .int .i64 (s.peer : Int), .slice aa nn cc] 106)).alloc (.cells #[.int .i64 0, .int .i64 0, .int .i64 0, .int .i64 0, .int .i64 0, .int .i64 0, .int .i64 0, .string ⟨#[]⟩, .string ⟨#[]⟩, .string ⟨#[]⟩, .int .i64 0, .int .i64 0, .slice none 0 0] 106)) := ((Below.refl _ _).alloc (Nat.le_refl _) _).alloc (by simp) _
  have hlt : w.heap.size + 1 < ((w.alloc (.cells #[.int .i64 (s.role : Int), .int .i64 (s.step : Int), .int .i64 (s.sent : Int), .int .i64 (s.got : Int), .int .i64 (s.prev : Int), .int .i64 (s.skip : Int), .int .i64 (s.cap : Int), .string (str s.root), .string (str s.out), .string (str s.inn), .int .i64 (s.secret : Int), .int .i64 (s.peer : Int), .slice aa nn cc] 106)).alloc (.cells #[.int .i64 0, .int .i64 0, .int .i64 0, .int .i64 0, .int .i64 0, .int .i64 0, .int .i64 0, .string ⟨#[]⟩, .string ⟨#[]⟩, .string ⟨#[]⟩, .int .i64 0, .int .i64 0, .slice none 0 0] 106)).heap.size := by simp
  generalize ((w.alloc (.cells #[.int .i64 (s.role : Int), .int .i64 (s.step : Int), .int .i64 (s.sent : Int), .int .i64 (s.got : Int), .int .i64 (s.prev : Int), .int .i64 (s.skip : Int), .int .i64 (s.cap : Int), .string (str s.root), .string (str s.out), .string (str s.inn), .int .i64 (s.secret : Int), .int .i64 (s.peer : Int), .slice aa nn cc] 106)).alloc (.cells #[.int .i64 0, .int .i64 0, .int .i64 0, .int .i64 0, .int .i64 0, .int .i64 0, .int .i64 0, .string ⟨#[]⟩, .string ⟨#[]⟩, .string ⟨#[]⟩, .int .i64 0, .int .i64 0, .slice none 0 0] 106)) = wb at hB hR hW hlt ⊢
  have k1 : wb.cell? ⟨w.heap.size, 1, none⟩ = some (.int .i64 (s.step : Int)) := cell_of_row wb _ 1 _ _ _ hB
  have k2 : wb.cell? ⟨w.heap.size, 2, none⟩ = some (.int .i64 (s.sent : Int)) := cell_of_row wb _ 2 _ _ _ hB
  have k4 : wb.cell? ⟨w.heap.size, 4, none⟩ = some (.int .i64 (s.prev : Int)) := cell_of_row wb _ 4 _ _ _ hB
  have k10 : wb.cell? ⟨w.heap.size, 10, none⟩ = some (.int .i64 (s.secret : Int)) := cell_of_row wb _ 10 _ _ _ hB
  have HB : Hid (wb.heap[w.heap.size]? = some (.cells #[.int .i64 (s.role : Int), .int .i64 (s.step : Int), .int .i64 (s.sent : Int), .int .i64 (s.got : Int), .int .i64 (s.prev : Int), .int .i64 (s.skip : Int), .int .i64 (s.cap : Int), .string (str s.root), .string (str s.out), .string (str s.inn), .int .i64 (s.secret : Int), .int .i64 (s.peer : Int), .slice aa nn cc] 106)) := hB
  have HR : Hid (wb.heap[w.heap.size + 1]? = some (.cells #[.int .i64 0, .int .i64 0, .int .i64 0, .int .i64 0, .int .i64 0, .int .i64 0, .int .i64 0, .string ⟨#[]⟩, .string ⟨#[]⟩, .string ⟨#[]⟩, .int .i64 0, .int .i64 0, .slice none 0 0] 106)) := hR
  have HW : Hid (Below w.heap.size w wb) := hW
  clear hB hR hW
  go_cut [6] (fun x wx => x = .string hd ∧ Below wb.heap.size wb wx)
  case first =>
    go_region_held3 (fun w' => w'.cell? ⟨w.heap.size, 1, none⟩ = some (.int .i64 (s.step : Int)) ∧ w'.cell? ⟨w.heap.size, 2, none⟩ = some (.int .i64 (s.sent : Int)) ∧ w'.cell? ⟨w.heap.size, 4, none⟩ = some (.int .i64 (s.prev : Int)) ∧ w'.cell? ⟨w.heap.size, 10, none⟩ = some (.int .i64 (s.secret : Int))) (first | (simp [k1, k2, k4, k10]; done) | (simp [g1, g2, g4, g10]; done)) (first | (go_at_call 54; go_must (with_reducible refine (c1 _).mono ?_); rintro e w' ⟨rfl, hw⟩; rw [hw]; clear hw w') | (go_at_call 136; go_must (with_reducible refine (c2 _).mono ?_); rintro e w1 ⟨rfl, hb1⟩; have hb1' : Below wb.heap.size wb w1 := ⟨hb1.os, hb1.tape, hb1.output, hb1.size, hb1.block⟩; have hB9 := (hb1'.block w.heap.size (by omega)).trans HB.out; have g1 : w1.cell? ⟨w.heap.size, 1, none⟩ = some (.int .i64 (s.step : Int)) := cell_of_row w1 _ 1 _ _ _ hB9; have g2 : w1.cell? ⟨w.heap.size, 2, none⟩ = some (.int .i64 (s.sent : Int)) := cell_of_row w1 _ 2 _ _ _ hB9; have g4 : w1.cell? ⟨w.heap.size, 4, none⟩ = some (.int .i64 (s.prev : Int)) := cell_of_row w1 _ 4 _ _ _ hB9; have g10 : w1.cell? ⟨w.heap.size, 10, none⟩ = some (.int .i64 (s.secret : Int)) := cell_of_row w1 _ 10 _ _ _ hB9; clear hB9 hb1'))
    all_goals (go_wp2_with fail)
    all_goals go_meet
    all_goals exact ⟨rfl, ⟨hb1.os, hb1.tape, hb1.output, hb1.size, hb1.block⟩⟩
  case rest =>
    obtain ⟨rfl, hb1⟩ := hcut
    have hB1 := (hb1.block w.heap.size (by omega)).trans HB.out
    have hR1 := (hb1.block (w.heap.size + 1) hlt).trans HR.out
    have HW1 : Hid (Below w.heap.size w wc) := below_tr HW.out hb1
    have hlt1 : w.heap.size + 1 < wc.heap.size := Nat.lt_of_lt_of_le hlt hb1.size
    have HB1 : Hid (wc.heap[w.heap.size]? = some (.cells #[.int .i64 (s.role : Int), .int .i64 (s.step : Int), .int .i64 (s.sent : Int), .int .i64 (s.got : Int), .int .i64 (s.prev : Int), .int .i64 (s.skip : Int), .int .i64 (s.cap : Int), .string (str s.root), .string (str s.out), .string (str s.inn), .int .i64 (s.secret : Int), .int .i64 (s.peer : Int), .slice aa nn cc] 106)) := hB1
    have HR1 : Hid (wc.heap[w.heap.size + 1]? = some (.cells #[.int .i64 0, .int .i64 0, .int .i64 0, .int .i64 0, .int .i64 0, .int .i64 0, .int .i64 0, .string ⟨#[]⟩, .string ⟨#[]⟩, .string ⟨#[]⟩, .int .i64 0, .int .i64 0, .slice none 0 0] 106)) := hR1
    have k8 : wc.cell? ⟨w.heap.size, 8, none⟩ = some (.string (str s.out)) := cell_of_row wc _ 8 _ _ _ hB1
    clear k1 k2 k4 k10 HB HR HW hB1 hR1 hb1 hlt c1 c2
    go_upto_region 3 with (first | (go_at_call 137; with_reducible refine (c3 _).mono ?_; rintro e w2 ⟨rfl, hb2⟩))
    have hB2 := (hb2.block w.heap.size (by omega)).trans HB1.out
    have hR2 := (hb2.block (w.heap.size + 1) hlt1).trans HR1.out
    have HW2 : Hid (Below w.heap.size w w2) := below_tr HW1.out hb2
    have hlt2 : w.heap.size + 1 < w2.heap.size := Nat.lt_of_lt_of_le hlt1 hb2.size
    have HB2 : Hid (w2.heap[w.heap.size]? = some (.cells #[.int .i64 (s.role : Int), .int .i64 (s.step : Int), .int .i64 (s.sent : Int), .int .i64 (s.got : Int), .int .i64 (s.prev : Int), .int .i64 (s.skip : Int), .int .i64 (s.cap : Int), .string (str s.root), .string (str s.out), .string (str s.inn), .int .i64 (s.secret : Int), .int .i64 (s.peer : Int), .slice aa nn cc] 106)) := hB2
    have HR2 : Hid (w2.heap[w.heap.size + 1]? = some (.cells #[.int .i64 0, .int .i64 0, .int .i64 0, .int .i64 0, .int .i64 0, .int .i64 0, .int .i64 0, .string ⟨#[]⟩, .string ⟨#[]⟩, .string ⟨#[]⟩, .int .i64 0, .int .i64 0, .slice none 0 0] 106)) := hR2
    have k8' : w2.cell? ⟨w.heap.size, 8, none⟩ = some (.string (str s.out)) := cell_of_row w2 _ 8 _ _ _ hB2
    have k2' : w2.cell? ⟨w.heap.size, 2, none⟩ = some (.int .i64 (s.sent : Int)) := cell_of_row w2 _ 2 _ _ _ hB2
    have fB : ∀ j, w2.frozen? ⟨w.heap.size, j, none⟩ = false := fun j => frozen_of_row w2 _ j _ _ hB2
    clear k8 HB1 HR1 HW1 hB2 hR2 hb2 c3
    go_upto_region 5 with fail
    have hX : ((w2.setCell ⟨w.heap.size, 8, none⟩ (.string nx)).setCell ⟨w.heap.size, 2, none⟩ (.int .i64 ((s.sent : Int) + 1))).heap[w.heap.size]? = some (.cells #[.int .i64 (s.role : Int), .int .i64 (s.step : Int), .int .i64 ((s.sent : Int) + 1), .int .i64 (s.got : Int), .int .i64 (s.prev : Int), .int .i64 (s.skip : Int), .int .i64 (s.cap : Int), .string (str s.root), .string nx, .string (str s.inn), .int .i64 (s.secret : Int), .int .i64 (s.peer : Int), .slice aa nn cc] 106) := heap_setCell_same _ _ _ _ _ _ (heap_setCell_same _ _ _ _ _ _ HB2.out)
    have hY : ((w2.setCell ⟨w.heap.size, 8, none⟩ (.string nx)).setCell ⟨w.heap.size, 2, none⟩ (.int .i64 ((s.sent : Int) + 1))).heap[w.heap.size + 1]? = some (.cells #[.int .i64 0, .int .i64 0, .int .i64 0, .int .i64 0, .int .i64 0, .int .i64 0, .int .i64 0, .string ⟨#[]⟩, .string ⟨#[]⟩, .string ⟨#[]⟩, .int .i64 0, .int .i64 0, .slice none 0 0] 106) := (heap_setCell_other _ _ _ _ (by show w.heap.size + 1 ≠ w.heap.size; omega)).trans ((heap_setCell_other _ _ _ _ (by show w.heap.size + 1 ≠ w.heap.size; omega)).trans HR2.out)
    have hZ : Below w.heap.size w ((w2.setCell ⟨w.heap.size, 8, none⟩ (.string nx)).setCell ⟨w.heap.size, 2, none⟩ (.int .i64 ((s.sent : Int) + 1))) := (HW2.out.setCell (by exact Nat.le_refl _) _).setCell (by exact Nat.le_refl _) _
    have hltz : w.heap.size + 1 < ((w2.setCell ⟨w.heap.size, 8, none⟩ (.string nx)).setCell ⟨w.heap.size, 2, none⟩ (.int .i64 ((s.sent : Int) + 1))).heap.size := by simpa using hlt2
    generalize ((w2.setCell ⟨w.heap.size, 8, none⟩ (.string nx)).setCell ⟨w.heap.size, 2, none⟩ (.int .i64 ((s.sent : Int) + 1))) = wz at hX hY hZ hltz ⊢
    clear k8' k2' fB HB2 HR2 HW2 hlt2
    have k0 : wz.cell? ⟨w.heap.size, 0, none⟩ = some (.int .i64 (s.role : Int)) := cell_of_row wz _ 0 _ _ _ hX
    have k1 : wz.cell? ⟨w.heap.size, 1, none⟩ = some (.int .i64 (s.step : Int)) := cell_of_row wz _ 1 _ _ _ hX
    have k2 : wz.cell? ⟨w.heap.size, 2, none⟩ = some (.int .i64 ((s.sent : Int) + 1)) := cell_of_row wz _ 2 _ _ _ hX
    have k3 : wz.cell? ⟨w.heap.size, 3, none⟩ = some (.int .i64 (s.got : Int)) := cell_of_row wz _ 3 _ _ _ hX
    have k4 : wz.cell? ⟨w.heap.size, 4, none⟩ = some (.int .i64 (s.prev : Int)) := cell_of_row wz _ 4 _ _ _ hX
    have k5 : wz.cell? ⟨w.heap.size, 5, none⟩ = some (.int .i64 (s.skip : Int)) := cell_of_row wz _ 5 _ _ _ hX
    have k6 : wz.cell? ⟨w.heap.size, 6, none⟩ = some (.int .i64 (s.cap : Int)) := cell_of_row wz _ 6 _ _ _ hX
    have k7 : wz.cell? ⟨w.heap.size, 7, none⟩ = some (.string (str s.root)) := cell_of_row wz _ 7 _ _ _ hX
    have k8 : wz.cell? ⟨w.heap.size, 8, none⟩ = some (.string nx) := cell_of_row wz _ 8 _ _ _ hX
    have k9 : wz.cell? ⟨w.heap.size, 9, none⟩ = some (.string (str s.inn)) := cell_of_row wz _ 9 _ _ _ hX
    have k10 : wz.cell? ⟨w.heap.size, 10, none⟩ = some (.int .i64 (s.secret : Int)) := cell_of_row wz _ 10 _ _ _ hX
    have k11 : wz.cell? ⟨w.heap.size, 11, none⟩ = some (.int .i64 (s.peer : Int)) := cell_of_row wz _ 11 _ _ _ hX
    have k12 : wz.cell? ⟨w.heap.size, 12, none⟩ = some (.slice aa nn cc) := cell_of_row wz _ 12 _ _ _ hX
    have a0 : wz.cell? ⟨w.heap.size + 1, 0, none⟩ = some (.int .i64 0) := cell_of_row wz _ 0 _ _ _ hY
    have a1 : wz.cell? ⟨w.heap.size + 1, 1, none⟩ = some (.int .i64 0) := cell_of_row wz _ 1 _ _ _ hY
    have a2 : wz.cell? ⟨w.heap.size + 1, 2, none⟩ = some (.int .i64 0) := cell_of_row wz _ 2 _ _ _ hY
    have a3 : wz.cell? ⟨w.heap.size + 1, 3, none⟩ = some (.int .i64 0) := cell_of_row wz _ 3 _ _ _ hY
    have a4 : wz.cell? ⟨w.heap.size + 1, 4, none⟩ = some (.int .i64 0) := cell_of_row wz _ 4 _ _ _ hY
    have a5 : wz.cell? ⟨w.heap.size + 1, 5, none⟩ = some (.int .i64 0) := cell_of_row wz _ 5 _ _ _ hY
    have a6 : wz.cell? ⟨w.heap.size + 1, 6, none⟩ = some (.int .i64 0) := cell_of_row wz _ 6 _ _ _ hY
    have a7 : wz.cell? ⟨w.heap.size + 1, 7, none⟩ = some (.string ⟨#[]⟩) := cell_of_row wz _ 7 _ _ _ hY
    have a8 : wz.cell? ⟨w.heap.size + 1, 8, none⟩ = some (.string ⟨#[]⟩) := cell_of_row wz _ 8 _ _ _ hY
    have a9 : wz.cell? ⟨w.heap.size + 1, 9, none⟩ = some (.string ⟨#[]⟩) := cell_of_row wz _ 9 _ _ _ hY
    have a10 : wz.cell? ⟨w.heap.size + 1, 10, none⟩ = some (.int .i64 0) := cell_of_row wz _ 10 _ _ _ hY
    have a11 : wz.cell? ⟨w.heap.size + 1, 11, none⟩ = some (.int .i64 0) := cell_of_row wz _ 11 _ _ _ hY
    have a12 : wz.cell? ⟨w.heap.size + 1, 12, none⟩ = some (.slice none 0 0) := cell_of_row wz _ 12 _ _ _ hY
    have fA : ∀ j, wz.frozen? ⟨w.heap.size + 1, j, none⟩ = false := fun j => frozen_of_row wz _ j _ _ hY
    have HX : Hid (wz.heap[w.heap.size]? = some (.cells #[.int .i64 (s.role : Int), .int .i64 (s.step : Int), .int .i64 ((s.sent : Int) + 1), .int .i64 (s.got : Int), .int .i64 (s.prev : Int), .int .i64 (s.skip : Int), .int .i64 (s.cap : Int), .string (str s.root), .string nx, .string (str s.inn), .int .i64 (s.secret : Int), .int .i64 (s.peer : Int), .slice aa nn cc] 106)) := hX
    have HY : Hid (wz.heap[w.heap.size + 1]? = some (.cells #[.int .i64 0, .int .i64 0, .int .i64 0, .int .i64 0, .int .i64 0, .int .i64 0, .int .i64 0, .string ⟨#[]⟩, .string ⟨#[]⟩, .string ⟨#[]⟩, .int .i64 0, .int .i64 0, .slice none 0 0] 106)) := hY
    have HZ : Hid (Below w.heap.size w wz) := hZ
    clear hX hY hZ
    go_region_with (first | (go_at_call 60; go_loud (with_reducible refine (c4 _).mono ?_); rintro e w4 ⟨rfl, hb4⟩; have hb4' : Below wz.heap.size wz w4 := ⟨hb4.os, hb4.tape, hb4.output, hb4.size, hb4.block⟩; clear k0 k1 k2 k3 k4 k5 k6 k7 k8 k9 k10 k11 k12 a0 a1 a2 a3 a4 a5 a6 a7 a8 a9 a10 a11 a12 fA; have hX4 := (hb4'.block w.heap.size (by omega)).trans HX.out; have hY4 := (hb4'.block (w.heap.size + 1) hltz).trans HY.out; have k0 : w4.cell? ⟨w.heap.size, 0, none⟩ = some (.int .i64 (s.role : Int)) := cell_of_row w4 _ 0 _ _ _ hX4; have k1 : w4.cell? ⟨w.heap.size, 1, none⟩ = some (.int .i64 (s.step : Int)) := cell_of_row w4 _ 1 _ _ _ hX4; have k2 : w4.cell? ⟨w.heap.size, 2, none⟩ = some (.int .i64 ((s.sent : Int) + 1)) := cell_of_row w4 _ 2 _ _ _ hX4; have k3 : w4.cell? ⟨w.heap.size, 3, none⟩ = some (.int .i64 (s.got : Int)) := cell_of_row w4 _ 3 _ _ _ hX4; have k4 : w4.cell? ⟨w.heap.size, 4, none⟩ = some (.int .i64 (s.prev : Int)) := cell_of_row w4 _ 4 _ _ _ hX4; have k5 : w4.cell? ⟨w.heap.size, 5, none⟩ = some (.int .i64 (s.skip : Int)) := cell_of_row w4 _ 5 _ _ _ hX4; have k6 : w4.cell? ⟨w.heap.size, 6, none⟩ = some (.int .i64 (s.cap : Int)) := cell_of_row w4 _ 6 _ _ _ hX4; have k7 : w4.cell? ⟨w.heap.size, 7, none⟩ = some (.string (str s.root)) := cell_of_row w4 _ 7 _ _ _ hX4; have k8 : w4.cell? ⟨w.heap.size, 8, none⟩ = some (.string nx) := cell_of_row w4 _ 8 _ _ _ hX4; have k9 : w4.cell? ⟨w.heap.size, 9, none⟩ = some (.string (str s.inn)) := cell_of_row w4 _ 9 _ _ _ hX4; have k10 : w4.cell? ⟨w.heap.size, 10, none⟩ = some (.int .i64 (s.secret : Int)) := cell_of_row w4 _ 10 _ _ _ hX4; have k11 : w4.cell? ⟨w.heap.size, 11, none⟩ = some (.int .i64 (s.peer : Int)) := cell_of_row w4 _ 11 _ _ _ hX4; have k12 : w4.cell? ⟨w.heap.size, 12, none⟩ = some (.slice aa nn cc) := cell_of_row w4 _ 12 _ _ _ hX4; have a0 : w4.cell? ⟨w.heap.size + 1, 0, none⟩ = some (.int .i64 0) := cell_of_row w4 _ 0 _ _ _ hY4; have a1 : w4.cell? ⟨w.heap.size + 1, 1, none⟩ = some (.int .i64 0) := cell_of_row w4 _ 1 _ _ _ hY4; have a2 : w4.cell? ⟨w.heap.size + 1, 2, none⟩ = some (.int .i64 0) := cell_of_row w4 _ 2 _ _ _ hY4; have a3 : w4.cell? ⟨w.heap.size + 1, 3, none⟩ = some (.int .i64 0) := cell_of_row w4 _ 3 _ _ _ hY4; have a4 : w4.cell? ⟨w.heap.size + 1, 4, none⟩ = some (.int .i64 0) := cell_of_row w4 _ 4 _ _ _ hY4; have a5 : w4.cell? ⟨w.heap.size + 1, 5, none⟩ = some (.int .i64 0) := cell_of_row w4 _ 5 _ _ _ hY4; have a6 : w4.cell? ⟨w.heap.size + 1, 6, none⟩ = some (.int .i64 0) := cell_of_row w4 _ 6 _ _ _ hY4; have a7 : w4.cell? ⟨w.heap.size + 1, 7, none⟩ = some (.string ⟨#[]⟩) := cell_of_row w4 _ 7 _ _ _ hY4; have a8 : w4.cell? ⟨w.heap.size + 1, 8, none⟩ = some (.string ⟨#[]⟩) := cell_of_row w4 _ 8 _ _ _ hY4; have a9 : w4.cell? ⟨w.heap.size + 1, 9, none⟩ = some (.string ⟨#[]⟩) := cell_of_row w4 _ 9 _ _ _ hY4; have a10 : w4.cell? ⟨w.heap.size + 1, 10, none⟩ = some (.int .i64 0) := cell_of_row w4 _ 10 _ _ _ hY4; have a11 : w4.cell? ⟨w.heap.size + 1, 11, none⟩ = some (.int .i64 0) := cell_of_row w4 _ 11 _ _ _ hY4; have a12 : w4.cell? ⟨w.heap.size + 1, 12, none⟩ = some (.slice none 0 0) := cell_of_row w4 _ 12 _ _ _ hY4; have fA : ∀ j, w4.frozen? ⟨w.heap.size + 1, j, none⟩ = false := fun j => frozen_of_row w4 _ j _ _ hY4; have HZ4 : Hid (Below w.heap.size w w4) := below_tr HZ.out hb4'; clear hX4 hY4 hb4 hb4'))
    all_goals (go_wp2)
    all_goals (try simp only [Exit.inBlock, Exit.then])
    all_goals (refine bodyPost_ret (v := .tuple #[.string (hd ++ sl), .agg #[.int .i64 (s.role : Int), .int .i64 (s.step : Int), .int .i64 ((s.sent : Int) + 1), .int .i64 (s.got : Int), .int .i64 (s.prev : Int), .int .i64 (s.skip : Int), .int .i64 (s.cap : Int), .string (str s.root), .string nx, .string (str s.inn), .int .i64 (s.secret : Int), .int .i64 (s.peer : Int), .slice aa nn cc]]) ?_ ?_ ?_)
    all_goals first
      | (refine ⟨rfl, ?_⟩; (repeat (with_reducible refine Below.setCell ?_ (by exact Nat.le_succ _) _)); exact HZ4.out)
      | rfl
      | (rw [results_tmp_cell (fn := Try.f98) rfl]; simp [go_sem, a0, a1, a2, a3, a4, a5, a6, a7, a8, a9, a10, a11, a12])
end Go.Proofs.Ytabpkohcimiceaa
