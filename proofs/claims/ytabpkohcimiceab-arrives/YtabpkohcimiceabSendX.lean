import Derived.Test.YtabpkohcimiceabLink
import Derived.Test.YtabpkohcimiceabOpen
import Derived.Test.YtabpkohcimiceabRplC
namespace Go.Proofs.Ytabpkohcimiceab
set_option maxRecDepth 100000
set_option maxHeartbeats 1000000
open Go.RowKit
set_option linter.unusedVariables false
theorem results_tmp_cell {fn : Func} {p u : Tmp} {ty : TypeId} (h : fn.results = #[.tmp u, .cell p ty]) (tmps : Array Value) (P : Program) (w : World) :
    (results fn tmps).run P w =
      ((asAddr (tmps.getD p undef)).run P w).andThen fun a w₁ => ((loadVar ty a).run P w₁).andThen fun v w₂ => .ok (.tuple #[tmps.getD u undef, v]) w₂ := by
  simp only [results, h]
  simp [Sem.run_bind, Result.andThen]
def letL (s : StM) (t : List UInt8) : List UInt8 := headB s.step s.sent s.prev (pwN 7 s.secret) ++ sealL (keyK s.out) (headB s.step s.sent s.prev (pwN 7 s.secret)) t
theorem talkSend_any (s : StM) (aa : Option Addr) (nn cc : Nat) (t : ByteArray) (w : World) (hs : StOk s) (hsec : s.secret < 2147483647) (ht : t.size ≤ 40) :
    Calls Try.prog 38 #[.agg #[.int .i64 s.role, .int .i64 s.step, .int .i64 s.sent, .int .i64 s.got, .int .i64 s.prev, .int .i64 s.skip, .int .i64 s.cap, .string (str s.root), .string (str s.out), .string (str s.inn), .int .i64 s.secret, .int .i64 s.peer, .slice aa nn cc], .string t] w fun e w' => e = .returned (.tuple #[.string (str (letL s t.data.toList)), .agg (stCells (sendS s) (.slice aa nn cc))]) ∧ Below w.heap.size w w' := by
  have ho := hs.out; have h1 := hs.step; have h2 := hs.sent; have h4 := hs.prev; have hp := pwN_lt 7 s.secret
  have c1 := fun w => devPublic_any s.secret w hsec
  have c2 := fun w => head_any s.step s.sent s.prev (pwN 7 s.secret) w h1 h2 h4 (by omega)
  have c3 := fun w => link_any (str s.out) w (by rw [str_size]; exact ho)
  have c4 := fun w => keysSeal_any (str (keyK s.out)) (str (headB s.step s.sent s.prev (pwN 7 s.secret))) t w (by rw [str_size, keyK_length]; unfold maxLen; omega) (by rw [str_size, headB_length]; omega) (by omega)
  rw [str_toList] at c3
  rw [str_toList, str_toList] at c4
  have hL : Hid (str (letL s t.data.toList) = str (headB s.step s.sent s.prev (pwN 7 s.secret)) ++ str (sealL (keyK s.out) (headB s.step s.sent s.prev (pwN 7 s.secret)) t.data.toList)) := by
    show _ = _
    rw [letL, str_append]
  have z1 : (str (headB s.step s.sent s.prev (pwN 7 s.secret))).size = 7 := by rw [str_size, headB_length]
  have z2 : (str (sealL (keyK s.out) (headB s.step s.sent s.prev (pwN 7 s.secret)) t.data.toList)).size = t.size + 8 := by rw [str_size, sealL_length, len_list]
  have hS : Hid (stCells (sendS s) (.slice aa nn cc) = #[.int .i64 s.role, .int .i64 s.step, .int .i64 ((s.sent : Int) + 1), .int .i64 s.got, .int .i64 s.prev, .int .i64 s.skip, .int .i64 s.cap, .string (str s.root), .string (str (nextK s.out)), .string (str s.inn), .int .i64 s.secret, .int .i64 s.peer, .slice aa nn cc]) := rfl; rw [hL.out, hS.out]; clear hL hS hs ho
  generalize str (sealL (keyK s.out) (headB s.step s.sent s.prev (pwN 7 s.secret)) t.data.toList) = sl at *
  generalize str (headB s.step s.sent s.prev (pwN 7 s.secret)) = hd at *
  generalize str (keyK s.out) = ky at *
  generalize str (nextK s.out) = nx at *
  generalize pwN 7 s.secret = pn at *
  go_enter Try.func38, Try.ntmps38
  go_upto_region 1 with fail
  have hB : ((w.alloc (.cells #[.int .i64 s.role, .int .i64 s.step, .int .i64 s.sent, .int .i64 s.got, .int .i64 s.prev, .int .i64 s.skip, .int .i64 s.cap, .string (str s.root), .string (str s.out), .string (str s.inn), .int .i64 s.secret, .int .i64 s.peer, .slice aa nn cc] 84)).alloc (.cells #[.int .i64 0, .int .i64 0, .int .i64 0, .int .i64 0, .int .i64 0, .int .i64 0, .int .i64 0, .string ⟨#[]⟩, .string ⟨#[]⟩, .string ⟨#[]⟩, .int .i64 0, .int .i64 0, .slice none 0 0] 84)).heap[w.heap.size]? = some (.cells #[.int .i64 s.role, .int .i64 s.step, .int .i64 s.sent, .int .i64 s.got, .int .i64 s.prev, .int .i64 s.skip, .int .i64 s.cap, .string (str s.root), .string (str s.out), .string (str s.inn), .int .i64 s.secret, .int .i64 s.peer, .slice aa nn cc] 84) := (Below.heap_alloc _ _ _ (by simp)).trans (heap_alloc_new w _)
  have hR : ((w.alloc (.cells #[.int .i64 s.role, .int .i64 s.step, .int .i64 s.sent, .int .i64 s.got, .int .i64 s.prev, .int .i64 s.skip, .int .i64 s.cap, .string (str s.root), .string (str s.out), .string (str s.inn), .int .i64 s.secret, .int .i64 s.peer, .slice aa nn cc] 84)).alloc (.cells #[.int .i64 0, .int .i64 0, .int .i64 0, .int .i64 0, .int .i64 0, .int .i64 0, .int .i64 0, .string ⟨#[]⟩, .string ⟨#[]⟩, .string ⟨#[]⟩, .int .i64 0, .int .i64 0, .slice none 0 0] 84)).heap[w.heap.size + 1]? = some (.cells #[.int .i64 0, .int .i64 0, .int .i64 0, .int .i64 0, .int .i64 0, .int .i64 0, .int .i64 0, .string ⟨#[]⟩, .string ⟨#[]⟩, .string ⟨#[]⟩, .int .i64 0, .int .i64 0, .slice none 0 0] 84) := by
    have := heap_alloc_new (w.alloc (.cells #[.int .i64 s.role, .int .i64 s.step, .int .i64 s.sent, .int .i64 s.got, .int .i64 s.prev, .int .i64 s.skip, .int .i64 s.cap, .string (str s.root), .string (str s.out), .string (str s.inn), .int .i64 s.secret, .int .i64 s.peer, .slice aa nn cc] 84)) (.cells #[.int .i64 0, .int .i64 0, .int .i64 0, .int .i64 0, .int .i64 0, .int .i64 0, .int .i64 0, .string ⟨#[]⟩, .string ⟨#[]⟩, .string ⟨#[]⟩, .int .i64 0, .int .i64 0, .slice none 0 0] 84)
    simpa using this
  have hW : Below w.heap.size w ((w.alloc (.cells #[.int .i64 s.role, .int .i64 s.step, .int .i64 s.sent, .int .i64 s.got, .int .i64 s.prev, .int .i64 s.skip, .int .i64 s.cap, .string (str s.root), .string (str s.out), .string (str s.inn), .int .i64 s.secret, .int .i64 s.peer, .slice aa nn cc] 84)).alloc (.cells #[.int .i64 0, .int .i64 0, .int .i64 0, .int .i64 0, .int .i64 0, .int .i64 0, .int .i64 0, .string ⟨#[]⟩, .string ⟨#[]⟩, .string ⟨#[]⟩, .int .i64 0, .int .i64 0, .slice none 0 0] 84)) := ((Below.refl _ _).alloc (Nat.le_refl _) _).alloc (by simp) _
  have hlt : w.heap.size + 1 < ((w.alloc (.cells #[.int .i64 s.role, .int .i64 s.step, .int .i64 s.sent, .int .i64 s.got, .int .i64 s.prev, .int .i64 s.skip, .int .i64 s.cap, .string (str s.root), .string (str s.out), .string (str s.inn), .int .i64 s.secret, .int .i64 s.peer, .slice aa nn cc] 84)).alloc (.cells #[.int .i64 0, .int .i64 0, .int .i64 0, .int .i64 0, .int .i64 0, .int .i64 0, .int .i64 0, .string ⟨#[]⟩, .string ⟨#[]⟩, .string ⟨#[]⟩, .int .i64 0, .int .i64 0, .slice none 0 0] 84)).heap.size := by simp
  generalize ((w.alloc (.cells #[.int .i64 s.role, .int .i64 s.step, .int .i64 s.sent, .int .i64 s.got, .int .i64 s.prev, .int .i64 s.skip, .int .i64 s.cap, .string (str s.root), .string (str s.out), .string (str s.inn), .int .i64 s.secret, .int .i64 s.peer, .slice aa nn cc] 84)).alloc (.cells #[.int .i64 0, .int .i64 0, .int .i64 0, .int .i64 0, .int .i64 0, .int .i64 0, .int .i64 0, .string ⟨#[]⟩, .string ⟨#[]⟩, .string ⟨#[]⟩, .int .i64 0, .int .i64 0, .slice none 0 0] 84)) = wb at hB hR hW hlt ⊢
  have k1 : wb.cell? ⟨w.heap.size, 1, none⟩ = some (.int .i64 s.step) := cell_of_row wb _ 1 _ _ _ hB; have k2 : wb.cell? ⟨w.heap.size, 2, none⟩ = some (.int .i64 s.sent) := cell_of_row wb _ 2 _ _ _ hB; have k4 : wb.cell? ⟨w.heap.size, 4, none⟩ = some (.int .i64 s.prev) := cell_of_row wb _ 4 _ _ _ hB; have k10 : wb.cell? ⟨w.heap.size, 10, none⟩ = some (.int .i64 s.secret) := cell_of_row wb _ 10 _ _ _ hB; have HB := hid hB; have HR := hid hR; have HW := hid hW; clear hB hR hW
  go_cut [6] (fun x wx => x = .string hd ∧ Below wb.heap.size wb wx)
  case first =>
    go_region_held3 (fun w' => w'.cell? ⟨w.heap.size, 1, none⟩ = some (.int .i64 s.step) ∧ w'.cell? ⟨w.heap.size, 2, none⟩ = some (.int .i64 s.sent) ∧ w'.cell? ⟨w.heap.size, 4, none⟩ = some (.int .i64 s.prev) ∧ w'.cell? ⟨w.heap.size, 10, none⟩ = some (.int .i64 s.secret)) (first | (simp [k1, k2, k4, k10]; done) | (simp [g1, g2, g4, g10]; done)) (first | (go_at_call 49; go_must (with_reducible refine (c1 _).mono ?_); rintro e w' ⟨rfl, hw⟩; rw [hw]; clear hw w') | (go_at_call 55; go_must (with_reducible refine (c2 _).mono ?_); rintro e w1 ⟨rfl, hb1⟩; have hb1' : Below wb.heap.size wb w1 := ⟨hb1.os, hb1.tape, hb1.output, hb1.size, hb1.block⟩; have hB9 := (hb1'.block w.heap.size (by omega)).trans HB.out; have g1 : w1.cell? ⟨w.heap.size, 1, none⟩ = some (.int .i64 s.step) := cell_of_row w1 _ 1 _ _ _ hB9; have g2 : w1.cell? ⟨w.heap.size, 2, none⟩ = some (.int .i64 s.sent) := cell_of_row w1 _ 2 _ _ _ hB9; have g4 : w1.cell? ⟨w.heap.size, 4, none⟩ = some (.int .i64 s.prev) := cell_of_row w1 _ 4 _ _ _ hB9; have g10 : w1.cell? ⟨w.heap.size, 10, none⟩ = some (.int .i64 s.secret) := cell_of_row w1 _ 10 _ _ _ hB9; clear hB9 hb1'))
    all_goals (go_wp2_with fail)
    all_goals go_meet
    all_goals exact ⟨rfl, ⟨hb1.os, hb1.tape, hb1.output, hb1.size, hb1.block⟩⟩
  case rest =>
    obtain ⟨rfl, hb1⟩ := hcut
    have hB1 := (hb1.block w.heap.size (by omega)).trans HB.out
    have hR1 := (hb1.block (w.heap.size + 1) hlt).trans HR.out; have HW1 : Hid (Below w.heap.size w wc) := below_tr HW.out hb1; have hlt1 : w.heap.size + 1 < wc.heap.size := Nat.lt_of_lt_of_le hlt hb1.size; have HB1 := hid hB1; have HR1 := hid hR1; have k8 : wc.cell? ⟨w.heap.size, 8, none⟩ = some (.string (str s.out)) := cell_of_row wc _ 8 _ _ _ hB1; clear k1 k2 k4 k10 HB HR HW hB1 hR1 hb1 hlt c1 c2
    go_upto_region 3 with (first | (go_at_call 56; with_reducible refine (c3 _).mono ?_; rintro e w2 ⟨rfl, hb2⟩))
    have hB2 := (hb2.block w.heap.size (by omega)).trans HB1.out
    have hR2 := (hb2.block (w.heap.size + 1) hlt1).trans HR1.out; have HW2 : Hid (Below w.heap.size w w2) := below_tr HW1.out hb2; have hlt2 : w.heap.size + 1 < w2.heap.size := Nat.lt_of_lt_of_le hlt1 hb2.size; have HB2 := hid hB2; have HR2 := hid hR2; have k8' : w2.cell? ⟨w.heap.size, 8, none⟩ = some (.string (str s.out)) := cell_of_row w2 _ 8 _ _ _ hB2; have k2' : w2.cell? ⟨w.heap.size, 2, none⟩ = some (.int .i64 s.sent) := cell_of_row w2 _ 2 _ _ _ hB2
    have fB : ∀ j, w2.frozen? ⟨w.heap.size, j, none⟩ = false := fun j => frozen_of_row w2 _ j _ _ hB2
    clear k8 HB1 HR1 HW1 hB2 hR2 hb2 c3
    go_upto_region 5 with fail
    have hX : ((w2.setCell ⟨w.heap.size, 8, none⟩ (.string nx)).setCell ⟨w.heap.size, 2, none⟩ (.int .i64 ((s.sent : Int) + 1))).heap[w.heap.size]? = some (.cells #[.int .i64 s.role, .int .i64 s.step, .int .i64 ((s.sent : Int) + 1), .int .i64 s.got, .int .i64 s.prev, .int .i64 s.skip, .int .i64 s.cap, .string (str s.root), .string nx, .string (str s.inn), .int .i64 s.secret, .int .i64 s.peer, .slice aa nn cc] 84) := heap_setCell_same _ _ _ _ _ _ (heap_setCell_same _ _ _ _ _ _ HB2.out)
    have hY : ((w2.setCell ⟨w.heap.size, 8, none⟩ (.string nx)).setCell ⟨w.heap.size, 2, none⟩ (.int .i64 ((s.sent : Int) + 1))).heap[w.heap.size + 1]? = some (.cells #[.int .i64 0, .int .i64 0, .int .i64 0, .int .i64 0, .int .i64 0, .int .i64 0, .int .i64 0, .string ⟨#[]⟩, .string ⟨#[]⟩, .string ⟨#[]⟩, .int .i64 0, .int .i64 0, .slice none 0 0] 84) := (heap_setCell_other _ _ _ _ (by show w.heap.size + 1 ≠ w.heap.size; omega)).trans ((heap_setCell_other _ _ _ _ (by show w.heap.size + 1 ≠ w.heap.size; omega)).trans HR2.out)
    have hZ : Below w.heap.size w ((w2.setCell ⟨w.heap.size, 8, none⟩ (.string nx)).setCell ⟨w.heap.size, 2, none⟩ (.int .i64 ((s.sent : Int) + 1))) := (HW2.out.setCell (by exact Nat.le_refl _) _).setCell (by exact Nat.le_refl _) _
    have hltz : w.heap.size + 1 < ((w2.setCell ⟨w.heap.size, 8, none⟩ (.string nx)).setCell ⟨w.heap.size, 2, none⟩ (.int .i64 ((s.sent : Int) + 1))).heap.size := by simpa using hlt2
    generalize ((w2.setCell ⟨w.heap.size, 8, none⟩ (.string nx)).setCell ⟨w.heap.size, 2, none⟩ (.int .i64 ((s.sent : Int) + 1))) = wz at hX hY hZ hltz ⊢
    clear k8' k2' fB HB2 HR2 HW2 hlt2; obtain ⟨k0, k1, k2, k3, k4, k5, k6, k7, k8, k9, k10, k11, k12⟩ := cells13 hX; obtain ⟨a0, a1, a2, a3, a4, a5, a6, a7, a8, a9, a10, a11, a12⟩ := cells13 hY
    have fA : ∀ j, wz.frozen? ⟨w.heap.size + 1, j, none⟩ = false := fun j => frozen_of_row wz _ j _ _ hY
    have HX := hid hX; have HY := hid hY; have HZ := hid hZ; clear hX hY hZ
    go_region_with (first | (go_at_call 57; (with_reducible refine (c4 _).mono ?_); rintro e w4 ⟨rfl, hb4⟩; have hb4' : Below wz.heap.size wz w4 := ⟨hb4.os, hb4.tape, hb4.output, hb4.size, hb4.block⟩; clear k0 k1 k2 k3 k4 k5 k6 k7 k8 k9 k10 k11 k12 a0 a1 a2 a3 a4 a5 a6 a7 a8 a9 a10 a11 a12 fA; have hX4 := (hb4'.block w.heap.size (by omega)).trans HX.out; have hY4 := (hb4'.block (w.heap.size + 1) hltz).trans HY.out; obtain ⟨k0, k1, k2, k3, k4, k5, k6, k7, k8, k9, k10, k11, k12⟩ := cells13 hX4; obtain ⟨a0, a1, a2, a3, a4, a5, a6, a7, a8, a9, a10, a11, a12⟩ := cells13 hY4; have fA : ∀ j, w4.frozen? ⟨w.heap.size + 1, j, none⟩ = false := fun j => frozen_of_row w4 _ j _ _ hY4; have HZ4 : Hid (Below w.heap.size w w4) := below_tr HZ.out hb4'; clear hX4 hY4 hb4 hb4'))
    all_goals (go_wp2)
    all_goals (try simp only [Exit.inBlock, Exit.then])
    all_goals (refine bodyPost_ret (v := .tuple #[.string (hd ++ sl), .agg #[.int .i64 s.role, .int .i64 s.step, .int .i64 ((s.sent : Int) + 1), .int .i64 s.got, .int .i64 s.prev, .int .i64 s.skip, .int .i64 s.cap, .string (str s.root), .string nx, .string (str s.inn), .int .i64 s.secret, .int .i64 s.peer, .slice aa nn cc]]) ?_ ?_ ?_)
    all_goals first
      | (refine ⟨rfl, ?_⟩; (repeat (with_reducible refine Below.setCell ?_ (by exact Nat.le_succ _) _)); exact HZ4.out)
      | rfl
      | (rw [results_tmp_cell (fn := Try.f38) rfl]; simp [go_sem, a0, a1, a2, a3, a4, a5, a6, a7, a8, a9, a10, a11, a12])
def sendErr (d t : List UInt8) : Int := if openErr d = 0 then (if 40 < t.length then 2 else if (heldS d).step = 0 then 13 else if 50 ≤ (heldS d).sent ∨ 30 ≤ (heldS d).step then 14 else 0) else openErr d
def sendLet (d t : List UInt8) : List UInt8 := if sendErr d t = 0 then letL (heldS d) t else []
def sendTo (d t : List UInt8) : List UInt8 := if sendErr d t = 0 then packL (sendS (heldS d)) (1 - liveL d) d.length else []
def sendPlan (d t : List UInt8) : List UInt8 := if sendErr d t = 0 then encL (rplR d (packL (sendS (heldS d)) (1 - liveL d) d.length) (heldS d).cap (liveL d)) else []
theorem send_ok (d t : List UInt8) (h : sendErr d t = 0) : openErr d = 0 ∧ t.length ≤ 40 ∧ (heldS d).step ≠ 0 ∧ (heldS d).sent < 50 ∧ (heldS d).step < 30 := by
  rw [sendErr] at h
  by_cases h0 : openErr d = 0
  · rw [if_pos h0] at h
    split at h
    · omega
    · split at h
      · omega
      · split at h
        · omega
        · exact ⟨h0, by omega, by omega, by omega, by omega⟩
  · rw [if_neg h0] at h; exact absurd h h0
theorem pawlSend_bad (d t : ByteArray) (w : World) (hd : d.size ≤ maxLen) (h : openErr d.data.toList ≠ 0) :
    Calls Try.prog 24 #[.string d, .string t] w fun e w' => e = .returned (.tuple #[.string ⟨#[]⟩, .string ⟨#[]⟩, .int .i64 (openErr d.data.toList)]) ∧ Below w.heap.size w w' := by
  have hI : (openErr d.data.toList == 0) = false := by rw [beq_eq_false_iff_ne]; exact h
  have c1 : ∀ w, Calls Try.prog 37 #[.string d] w fun e w' => e = .returned (.tuple #[.agg zeroCells16, .int .i64 (openErr d.data.toList)]) ∧ Below w.heap.size w w' := by
    intro w
    refine (openDisk_any d w hd).mono ?_
    rintro e w' ⟨q, hb⟩
    rcases q with ⟨q, _⟩ | ⟨_, q⟩
    · exact absurd q h
    · exact ⟨q, hb⟩
  unfold zeroCells16 at c1
  generalize openErr d.data.toList = er at *
  go_enter Try.func24, Try.ntmps24
  go_wp2_with (first | (go_at_call 37; (with_reducible refine (c1 _).mono ?_); rintro e w1 ⟨rfl, hb1⟩))
  go_ret3
  exact ⟨rfl, hb1.alloc hb1.size _⟩
theorem pawlSend_err (d t : ByteArray) (w : World) (hd : d.size ≤ maxLen) (h : openErr d.data.toList = 0) (he : sendErr d.data.toList t.data.toList ≠ 0) :
    Calls Try.prog 24 #[.string d, .string t] w fun e w' => e = .returned (.tuple #[.string ⟨#[]⟩, .string ⟨#[]⟩, .int .i64 (sendErr d.data.toList t.data.toList)]) ∧ Below w.heap.size w w' := by
  have c1 : ∀ w, Calls Try.prog 37 #[.string d] w fun e w' => (∃ (a : Option Addr) (n c : Nat), e = .returned (.tuple #[.agg (stateCells 3 (repL d.data.toList) (liveL d.data.toList) (heldS d.data.toList) a n c), .int .i64 0]) ∧ w'.ownsRow w.heap.size 142 3 (.slice a n c) (heldS d.data.toList).kept.length (entsCells (heldS d.data.toList).kept)) ∧ Below w.heap.size w w' := by
    intro w
    refine (openDisk_any d w hd).mono ?_
    rintro e w' ⟨q, hb⟩
    rcases q with ⟨_, q⟩ | ⟨q, _⟩
    · exact ⟨q, hb⟩
    · exact absurd h q
  unfold stateCells at c1
  rw [sendErr, if_pos h, len_list] at *
  generalize str (repL d.data.toList) = rp at *
  generalize heldS d.data.toList = ss at *
  generalize liveL d.data.toList = lv at *
  clear h
  by_cases h40 : 40 < t.size
  · rw [if_pos h40] at *
    have i40 : (40 : Int) < (t.size : Int) := by omega
    clear he
    go_enter Try.func24, Try.ntmps24
    go_wp2_with (first | (go_at_call 37; (with_reducible refine (c1 _).mono ?_); rintro e w1 ⟨⟨aa, nn, cc, rfl, hown⟩, hb1⟩))
    go_ret3
    exact ⟨rfl, hb1.alloc hb1.size _⟩
  · rw [if_neg h40] at *
    have i40 : ¬ (40 : Int) < (t.size : Int) := by omega
    by_cases h0 : ss.step = 0
    · rw [if_pos h0] at *
      have i0 : (ss.step : Int) = 0 := by omega
      clear he
      go_enter Try.func24, Try.ntmps24
      go_wp2_with (first | (go_at_call 37; (with_reducible refine (c1 _).mono ?_); rintro e w1 ⟨⟨aa, nn, cc, rfl, hown⟩, hb1⟩))
      go_ret3
      exact ⟨rfl, hb1.alloc hb1.size _⟩
    · rw [if_neg h0] at *
      have i0 : ¬ (ss.step : Int) = 0 := by omega
      by_cases h50 : 50 ≤ ss.sent ∨ 30 ≤ ss.step
      · rw [if_pos h50] at *
        clear he
        by_cases j50 : 50 ≤ ss.sent
        · have k50 : (50 : Int) ≤ (ss.sent : Int) := by omega
          go_enter Try.func24, Try.ntmps24
          go_wp2_with (first | (go_at_call 37; (with_reducible refine (c1 _).mono ?_); rintro e w1 ⟨⟨aa, nn, cc, rfl, hown⟩, hb1⟩))
          go_ret3
          exact ⟨rfl, hb1.alloc hb1.size _⟩
        · have k50 : ¬ (50 : Int) ≤ (ss.sent : Int) := by omega
          have k30 : (30 : Int) ≤ (ss.step : Int) := by omega
          clear h50
          go_enter Try.func24, Try.ntmps24
          go_wp2_with (first | (go_at_call 37; (with_reducible refine (c1 _).mono ?_); rintro e w1 ⟨⟨aa, nn, cc, rfl, hown⟩, hb1⟩))
          go_ret3
          exact ⟨rfl, hb1.alloc hb1.size _⟩
      · rw [if_neg h50] at he; exact absurd rfl he
theorem send_safe (d t : List UInt8) (h : sendErr d t = 0) : ∃ k, isDiskL d = true ∧ d.length = k * 32 ∧ 1 ≤ k ∧ k ≤ 40 ∧
    sendTo d t = packL (sendS (heldS d)) (1 - liveL d) (k * 32) ∧
    sendPlan d t = encL (rplR d (sendTo d t) (heldS d).cap (liveL d)) ∧
    recsL (sendPlan d t) k = some (rplR d (sendTo d t) (heldS d).cap (liveL d)) ∧
    (∀ kq, leftL d (rplR d (sendTo d t) (heldS d).cap (liveL d)) (rplR d (sendTo d t) (heldS d).cap (liveL d)).length kq = sendTo d t) ∧
    ∀ m kq, m ≤ (rplR d (sendTo d t) (heldS d).cap (liveL d)).length → repairR (leftL d (rplR d (sendTo d t) (heldS d).cap (liveL d)) m kq) = (d, 0) ∨ repairR (leftL d (rplR d (sendTo d t) (heldS d).cap (liveL d)) m kq) = (sendTo d t, 0) := by
  obtain ⟨h0, ht, hs0, h50, h30⟩ := send_ok _ _ h; obtain ⟨k, hg⟩ := open_good _ h0; obtain ⟨gl, gk⟩ := good_lawQ hg; obtain ⟨sl, sk⟩ := send_law gl gk hs0 h50; have hkl := hg.kept; have hcap := hg.cap
  have hok2 : StOk (sendS (heldS d)) := stOk_of sl sk (by show (heldS d).kept.length ≤ 255; omega)
  have hto : sendTo d t = packL (sendS (heldS d)) (1 - liveL d) (k * 32) := by rw [sendTo, if_pos h, hg.len]
  have hpl : sendPlan d t = encL (rplR d (sendTo d t) (heldS d).cap (liveL d)) := by rw [sendPlan, if_pos h, hto, hg.len]
  have hs := rpl_safe (s := heldS d) (s2 := sendS (heldS d)) (liveL d) k hg.ok hkl hcap hg.live hg.need hg.k2 hg.law hok2 hkl ((law_iff _).2 ⟨sl, hkl⟩) rfl
  rw [← hg.pack, ← hto] at hs
  obtain ⟨r1, r2, r3⟩ := hs
  exact ⟨k, hg.disk, hg.len, hg.k1, hg.k2, hto, hpl, by rw [hpl]; exact r1, r2, r3⟩
theorem pawlSend_ok (d t : ByteArray) (w : World) (hd : d.size ≤ maxLen) (he : sendErr d.data.toList t.data.toList = 0) :
    Calls Try.prog 24 #[.string d, .string t] w fun e w' => e = .returned (.tuple #[.string (str (sendLet d.data.toList t.data.toList)), .string (str (sendPlan d.data.toList t.data.toList)), .int .i64 0]) ∧ Below w.heap.size w w' := by
  obtain ⟨h, ht, h0, h50, h30⟩ := send_ok _ _ he; obtain ⟨k, hg⟩ := open_good _ h; have hdl := len_list d
  have hk : d.size = k * 32 := by rw [← hdl]; exact hg.len
  have hk2 := hg.k2; have hlv := hg.live; obtain ⟨gl, gk⟩ := good_lawQ hg; obtain ⟨sl, sk⟩ := send_law gl gk h0 h50; have hkl := hg.kept; have hcap := hg.cap
  have hok2 : StOk (sendS (heldS d.data.toList)) := stOk_of sl sk (by show (heldS d.data.toList).kept.length ≤ 255; omega)
  have hneed := hg.need; have hso := hg.ok; have hsec := gl.sec.2
  rw [len_list] at ht
  have i40 : ¬ (40 : Int) < (t.size : Int) := by omega
  have i0 : ¬ ((heldS d.data.toList).step : Int) = 0 := by omega
  have k50 : ¬ (50 : Int) ≤ ((heldS d.data.toList).sent : Int) := by omega
  have k30 : ¬ (30 : Int) ≤ ((heldS d.data.toList).step : Int) := by omega
  have c1 : ∀ w, Calls Try.prog 37 #[.string d] w fun e w' => (∃ (a : Option Addr) (n c : Nat), e = .returned (.tuple #[.agg (stateCells 3 (repL d.data.toList) (liveL d.data.toList) (heldS d.data.toList) a n c), .int .i64 0]) ∧ w'.ownsRow w.heap.size 142 3 (.slice a n c) (heldS d.data.toList).kept.length (entsCells (heldS d.data.toList).kept)) ∧ Below w.heap.size w w' := by
    intro w
    refine (openDisk_any d w hd).mono ?_
    rintro e w' ⟨q, hb⟩
    rcases q with ⟨_, q⟩ | ⟨q, _⟩
    · exact ⟨q, hb⟩
    · exact absurd h q
  unfold stateCells at c1
  have c2 := fun aa nn cc w => talkSend_any (heldS d.data.toList) aa nn cc t w hso (by omega) ht
  have c3 := fun so rp ss aa nn cc a2 n2 c2 w hv => replace_any d k so rp (liveL d.data.toList) ss aa nn cc (sendS (heldS d.data.toList)) a2 n2 c2 w hk hk2 hlv hok2 (by exact hkl) (by exact hcap) (by exact hneed) hv
  rw [sendLet, if_pos he, sendPlan, if_pos he, hdl, hk]; have HP : Hid ((sendS (heldS d.data.toList)).cap = (heldS d.data.toList).cap) := rfl
  rw [HP.out] at c3
  generalize str (repL d.data.toList) = rp at *
  generalize str (letL (heldS d.data.toList) t.data.toList) = lt at *
  generalize str (encL (rplR d.data.toList (packL (sendS (heldS d.data.toList)) (1 - liveL d.data.toList) (k * 32)) (heldS d.data.toList).cap (liveL d.data.toList))) = pl at *
  generalize heldS d.data.toList = ss at *
  generalize liveL d.data.toList = lv at *
  have c2' : ∀ aa nn cc w, Calls Try.prog 38 #[.agg #[.int .i64 ss.role, .int .i64 ss.step, .int .i64 ss.sent, .int .i64 ss.got, .int .i64 ss.prev, .int .i64 ss.skip, .int .i64 ss.cap, .string (str ss.root), .string (str ss.out), .string (str ss.inn), .int .i64 ss.secret, .int .i64 ss.peer, .slice aa nn cc], .string t] w fun e w' => e = .returned (.tuple #[.string lt, .agg #[.int .i64 ss.role, .int .i64 ss.step, .int .i64 ((ss.sent : Int) + 1), .int .i64 ss.got, .int .i64 ss.prev, .int .i64 ss.skip, .int .i64 ss.cap, .string (str ss.root), .string (str (nextK ss.out)), .string (str ss.inn), .int .i64 ss.secret, .int .i64 ss.peer, .slice aa nn cc]]) ∧ Below w.heap.size w w' := c2
  have c3' : ∀ so rp (sx : StM) aa nn cc a2 n2 c2 w, EntsAt w (.slice a2 n2 c2) ss.kept → Calls Try.prog 39 #[.string d, .agg #[.int .i64 so, .string rp, .int .i64 lv, .int .i64 sx.role, .int .i64 sx.step, .int .i64 sx.sent, .int .i64 sx.got, .int .i64 sx.prev, .int .i64 sx.skip, .int .i64 sx.cap, .string (str sx.root), .string (str sx.out), .string (str sx.inn), .int .i64 sx.secret, .int .i64 sx.peer, .slice aa nn cc], .agg #[.int .i64 ss.role, .int .i64 ss.step, .int .i64 ((ss.sent : Int) + 1), .int .i64 ss.got, .int .i64 ss.prev, .int .i64 ss.skip, .int .i64 ss.cap, .string (str ss.root), .string (str (nextK ss.out)), .string (str ss.inn), .int .i64 ss.secret, .int .i64 ss.peer, .slice a2 n2 c2]] w fun e w' => e = .returned (.string pl) ∧ Below w.heap.size w w' := fun so rp sx aa nn cc a2 n2 c2 w hv => c3 so rp sx aa nn cc a2 n2 c2 w hv
  clear c2 c3 hg gl gk sl sk he h h0 h50 h30 hok2 hso HP ht
  go_enter Try.func24, Try.ntmps24
  go_upto_region 10 with (first | (go_at_call 37; (with_reducible refine (c1 _).mono ?_); rintro e w1 ⟨⟨aa, nn, cc, rfl, hown⟩, hb1⟩))
  obtain ⟨ob, eob⟩ : ∃ ob, ob = Obj.cells #[.int .i64 3, .string rp, .int .i64 lv, .int .i64 ss.role, .int .i64 ss.step, .int .i64 ss.sent, .int .i64 ss.got, .int .i64 ss.prev, .int .i64 ss.skip, .int .i64 ss.cap, .string (str ss.root), .string (str ss.out), .string (str ss.inn), .int .i64 ss.secret, .int .i64 ss.peer, .slice aa nn cc] 86 := ⟨_, rfl⟩
  rw [← eob]; have hA := heap_alloc_new w1 ob; have hE : EntsAt (w1.alloc ob) (.slice aa nn cc) ss.kept := EntsAt.of_own (hown.alloc _); have hW : Below w.heap.size w (w1.alloc ob) := hb1.alloc hb1.size _
  have hlt : w1.heap.size < (w1.alloc ob).heap.size := by simp
  generalize (w1.alloc ob) = wb at hA hE hW hlt ⊢
  subst eob
  generalize w1.heap.size = B at hA hlt ⊢
  obtain ⟨_, _, _, k3, k4, k5, k6, k7, k8, k9, k10, k11, k12, k13, k14, k15⟩ := cells16 hA; have HA := hid hA; have HE := hid hE; have HW := hid hW; clear hA hE hW hown hb1 c1
  go_upto_region 11 with (first | (go_at_call 38; (with_reducible refine (c2' _ _ _ _).mono ?_); rintro e w2 ⟨rfl, hb2⟩))
  have hA2 : (w2.alloc (.cells #[.int .i64 ss.role, .int .i64 ss.step, .int .i64 ((ss.sent : Int) + 1), .int .i64 ss.got, .int .i64 ss.prev, .int .i64 ss.skip, .int .i64 ss.cap, .string (str ss.root), .string (str (nextK ss.out)), .string (str ss.inn), .int .i64 ss.secret, .int .i64 ss.peer, .slice aa nn cc] 84)).heap[B]? = some (.cells #[.int .i64 3, .string rp, .int .i64 lv, .int .i64 ss.role, .int .i64 ss.step, .int .i64 ss.sent, .int .i64 ss.got, .int .i64 ss.prev, .int .i64 ss.skip, .int .i64 ss.cap, .string (str ss.root), .string (str ss.out), .string (str ss.inn), .int .i64 ss.secret, .int .i64 ss.peer, .slice aa nn cc] 86) := (Below.heap_alloc _ _ _ (Nat.lt_of_lt_of_le hlt hb2.size)).trans ((hb2.block B hlt).trans HA.out); have hX2 := heap_alloc_new w2 (.cells #[.int .i64 ss.role, .int .i64 ss.step, .int .i64 ((ss.sent : Int) + 1), .int .i64 ss.got, .int .i64 ss.prev, .int .i64 ss.skip, .int .i64 ss.cap, .string (str ss.root), .string (str (nextK ss.out)), .string (str ss.inn), .int .i64 ss.secret, .int .i64 ss.peer, .slice aa nn cc] 84); have hE2 : EntsAt (w2.alloc (.cells #[.int .i64 ss.role, .int .i64 ss.step, .int .i64 ((ss.sent : Int) + 1), .int .i64 ss.got, .int .i64 ss.prev, .int .i64 ss.skip, .int .i64 ss.cap, .string (str ss.root), .string (str (nextK ss.out)), .string (str ss.inn), .int .i64 ss.secret, .int .i64 ss.peer, .slice aa nn cc] 84)) (.slice aa nn cc) ss.kept := (HE.out.next hb2).next ((Below.refl _ _).alloc (Nat.le_refl _) _); have hW2 : Below w.heap.size w (w2.alloc (.cells #[.int .i64 ss.role, .int .i64 ss.step, .int .i64 ((ss.sent : Int) + 1), .int .i64 ss.got, .int .i64 ss.prev, .int .i64 ss.skip, .int .i64 ss.cap, .string (str ss.root), .string (str (nextK ss.out)), .string (str ss.inn), .int .i64 ss.secret, .int .i64 ss.peer, .slice aa nn cc] 84)) := below_tr (below_tr HW.out hb2) ((Below.refl _ _).alloc (Nat.le_refl _) _)
  generalize (w2.alloc (.cells #[.int .i64 ss.role, .int .i64 ss.step, .int .i64 ((ss.sent : Int) + 1), .int .i64 ss.got, .int .i64 ss.prev, .int .i64 ss.skip, .int .i64 ss.cap, .string (str ss.root), .string (str (nextK ss.out)), .string (str ss.inn), .int .i64 ss.secret, .int .i64 ss.peer, .slice aa nn cc] 84)) = wz at hA2 hX2 hE2 hW2 ⊢
  generalize w2.heap.size = B2 at hX2 ⊢
  clear k3 k4 k5 k6 k7 k8 k9 k10 k11 k12 k13 k14 k15 HA HE HW hb2; obtain ⟨x0, x1, x2, x3, x4, x5, x6, x7, x8, x9, x10, x11, x12, x13, x14, x15⟩ := cells16 hA2; obtain ⟨y0, y1, y2, y3, y4, y5, y6, y7, y8, y9, y10, y11, y12⟩ := cells13 hX2; have HW2 := hid hW2; clear hA2 hX2 hW2
  go_wp2_with (first | (go_at_call 39; (with_reducible refine (c3' _ _ _ _ _ _ _ _ _ _ hE2).mono ?_); rintro e w3 ⟨rfl, hb3⟩))
  go_ret3
  exact ⟨rfl, below_tr HW2.out hb3⟩
theorem pawlSend_any (d t : ByteArray) (w : World) (hd : d.size ≤ maxLen) :
    Calls Try.prog 24 #[.string d, .string t] w fun e w' => e = .returned (.tuple #[.string (str (sendLet d.data.toList t.data.toList)), .string (str (sendPlan d.data.toList t.data.toList)), .int .i64 (sendErr d.data.toList t.data.toList)]) ∧ Below w.heap.size w w' := by
  by_cases he : sendErr d.data.toList t.data.toList = 0
  · rw [he]; exact pawlSend_ok d t w hd he
  · rw [sendLet, if_neg he, sendPlan, if_neg he]
    by_cases h : openErr d.data.toList = 0
    · exact pawlSend_err d t w hd h he
    · have e : sendErr d.data.toList t.data.toList = openErr d.data.toList := by rw [sendErr, if_neg h]
      rw [e]; exact pawlSend_bad d t w hd h
end Go.Proofs.Ytabpkohcimiceab
