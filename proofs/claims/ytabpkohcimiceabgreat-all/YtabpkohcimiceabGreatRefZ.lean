import Derived.Test.YtabpkohcimiceabGreatRefY
namespace Go.Proofs.YtabpkohcimiceabGreat
set_option maxRecDepth 100000
set_option maxHeartbeats 1000000
open Go.RowKit
set_option linter.unusedVariables false
set_option linter.unusedSimpArgs false
theorem refTurning_one (s : StM) (aa : Option Addr) (nn cc : Nat) (l : LetM) (draw : Nat) (w : World) (hls : l.step = s.step + 1) (h255 : s.step ≤ 250) (hc : l.count ≤ 254) (hpv : l.prev ≤ 150) (hg : s.got ≤ 255) (hl : s.kept.length ≤ 100) (hin : s.inn.length = 8) (hroot : s.root.length = 8) (hcap : s.cap ≤ 255) (hs : s.secret < 2147483647) (hp : l.pub < 2147483647) (hd : draw < 2147483647) (hv : EntsAt w (.slice aa nn cc) s.kept) (h2 : ¬ 2 ≤ s.step) :
    Calls Tryz.prog 141 #[.agg #[.int .i64 s.role, .int .i64 s.step, .int .i64 s.sent, .int .i64 s.got, .int .i64 s.prev, .int .i64 s.skip, .int .i64 s.cap, .string (str s.root), .string (str s.out), .string (str s.inn), .int .i64 s.secret, .int .i64 s.peer, .slice aa nn cc], .agg #[.int .i64 l.step, .int .i64 l.count, .int .i64 l.prev, .int .i64 l.pub, .string (str l.head), .string (str l.body)], .int .i64 draw] w fun e w' => TakeRef (refTurnR s l draw) w.heap.size w' e ∧ Below w.heap.size w w' := by
  have hI : ¬ (2 : Int) ≤ (s.step : Int) := by omega
  have hkp : s.kept = s.kept := rfl
  have hkl : s.kept.length ≤ 500 := by omega
  have hpc : s.cap ≤ 255 := hcap
  have hlb : l.step ≤ 251 := by omega
  have cr1 := fun w => raised_any s.secret l.pub s.secret w (Nat.le_refl _) hp hs
  have cr2 := fun w => raised_any draw l.pub draw w (Nat.le_refl _) hp hd
  have hx1 := pwN_lt l.pub s.secret; have hx2 := pwN_lt l.pub draw
  have cc1 := fun w => chains_any (str s.root) (pwN l.pub s.secret) w (by rw [str_size]; exact hroot) (by omega)
  have cc2 := fun w => chains_any (str (rootL s.root (pwN l.pub s.secret))) (pwN l.pub draw) w (by rw [str_size]; exact mixed_length _ _) (by omega)
  rw [str_toList] at cc1 cc2
  obtain ⟨t, ht⟩ : ∃ t, t = turnS s l.step l.pub draw := ⟨_, rfl⟩
  have htk : t.kept = s.kept := by rw [ht]; exact hkp
  have cdue : ∀ (w : World) (va : Option Addr) (vn vc : Nat), EntsAt w (.slice va vn vc) s.kept → Calls Tryz.prog 142 #[.agg (stCells t (.slice va vn vc)), .agg #[.int .i64 l.step, .int .i64 l.count, .int .i64 l.prev, .int .i64 l.pub, .string (str l.head), .string (str l.body)]] w fun e w' => TakeRef (refDueR t l.count) w.heap.size w' e ∧ Below w.heap.size w w' := fun w va vn vc hE =>
    refDue_any t va vn vc l w (by rw [ht]; rfl) (by rw [ht]; show l.step + 1 ≤ 255; omega) (by rw [ht]; exact Nat.zero_le _) hc (by rw [htk]; exact hkl) (by rw [ht]; exact mixed_length _ _) (by rw [ht]; exact hpc) (by rw [htk]; exact hE)
  have htc : ∀ v, stCells t v = #[.int .i64 s.role, .int .i64 ((l.step : Int) + 1), .int .i64 0, .int .i64 0, .int .i64 s.sent, .int .i64 s.skip, .int .i64 s.cap, .string (str (rootL (rootL s.root (pwN l.pub s.secret)) (pwN l.pub draw))), .string (str (chainL (rootL s.root (pwN l.pub s.secret)) (pwN l.pub draw))), .string (str (chainL s.root (pwN l.pub s.secret))), .int .i64 draw, .int .i64 l.pub, v] := fun v => by
    rw [ht]
    simp only [stCells, turnS, Int.natCast_add]
    rfl
  simp only [htc] at cdue
  generalize str (chainL s.root (pwN l.pub s.secret)) = ti at *
  generalize str (chainL (rootL s.root (pwN l.pub s.secret)) (pwN l.pub draw)) = to2 at *
  generalize str (rootL (rootL s.root (pwN l.pub s.secret)) (pwN l.pub draw)) = tr at *
  generalize rootL s.root (pwN l.pub s.secret) = rt at *
  generalize pwN l.pub s.secret = d1 at *
  generalize pwN l.pub draw = d2 at *
  have HQ : Hid (refTurnR s l draw = refDueR t l.count) := by
    show _ = _
    rw [refTurnR, if_neg (fun q => h2 q.1), endS, if_neg h2, ht]
  clear ht htk htc hkp hkl hpc h2 hls hin hroot hs hp hd hx1 hx2
  go_enter Tryz.func141, Tryz.ntmps141
  go_upto_region 1 with fail
  obtain ⟨wb, ewb, hB, hL, hR, hW, hlt⟩ := alloc3e w (.cells #[.int .i64 s.role, .int .i64 s.step, .int .i64 s.sent, .int .i64 s.got, .int .i64 s.prev, .int .i64 s.skip, .int .i64 s.cap, .string (str s.root), .string (str s.out), .string (str s.inn), .int .i64 s.secret, .int .i64 s.peer, .slice aa nn cc] 63) (.cells #[.int .i64 l.step, .int .i64 l.count, .int .i64 l.prev, .int .i64 l.pub, .string (str l.head), .string (str l.body)] 145) (.cells #[.int .i64 0, .int .i64 0, .int .i64 0, .int .i64 0, .int .i64 0, .int .i64 0, .int .i64 0, .string ⟨#[]⟩, .string ⟨#[]⟩, .string ⟨#[]⟩, .int .i64 0, .int .i64 0, .slice none 0 0] 63); rw [← ewb]; clear ewb; have HB := hid hB; have HL := hid hL; have HR := hid hR; have HW := hid hW; have HEx : Hid (EntsAt wb (.slice aa nn cc) s.kept) := hv.next hW
  have HOB : Hid (Off (fun g => g = w.heap.size) (.slice aa nn cc)) := Off.above hv _ (Nat.le_refl _)
  have k1 : wb.cell? ⟨w.heap.size, 1, none⟩ = some (.int .i64 s.step) := cell_of_row wb _ 1 _ _ _ hB; clear hB hL hR hW hv
  have hszx : w.heap.size + 1 + 1 + 1 ≤ wb.heap.size := by omega
  have k7 : wb.cell? ⟨w.heap.size, 7, none⟩ = some (.string (str s.root)) := cell_of_row wb _ 7 _ _ _ HB.out; have k10 : wb.cell? ⟨w.heap.size, 10, none⟩ = some (.int .i64 s.secret) := cell_of_row wb _ 10 _ _ _ HB.out; have q3 : wb.cell? ⟨w.heap.size + 1, 3, none⟩ = some (.int .i64 l.pub) := cell_of_row wb _ 3 _ _ _ HL.out
  go_upto_region 7 with fail
  go_cut [11, 12] (fun x y wy => x = .string ti ∧ y = .string (str rt) ∧ Below wb.heap.size wb wy)
  case first =>
    go_region_held3 (fun w' => w'.cell? ⟨w.heap.size, 7, none⟩ = some (.string (str s.root)) ∧ w'.cell? ⟨w.heap.size + 1, 3, none⟩ = some (.int .i64 l.pub) ∧ w'.cell? ⟨w.heap.size, 10, none⟩ = some (.int .i64 s.secret)) (first | (simp [k7, q3, k10]; done) | (simp [g7, gq3, g10]; done)) (first | (go_at_call 89; go_must (with_reducible refine (cr1 _).mono ?_); rintro e w' ⟨rfl, hw⟩; rw [hw]; clear hw w') | (go_at_call 97; go_must (with_reducible refine (cc1 _).mono ?_); rintro e w1 ⟨rfl, hb1⟩; have hb1' : Below wb.heap.size wb w1 := ⟨hb1.os, hb1.tape, hb1.output, hb1.size, hb1.block⟩; have hB9 := (hb1'.block w.heap.size (by omega)).trans HB.out; have hL9 := (hb1'.block (w.heap.size + 1) (by omega)).trans HL.out; have g7 : w1.cell? ⟨w.heap.size, 7, none⟩ = some (.string (str s.root)) := cell_of_row w1 _ 7 _ _ _ hB9; have g10 : w1.cell? ⟨w.heap.size, 10, none⟩ = some (.int .i64 s.secret) := cell_of_row w1 _ 10 _ _ _ hB9; have gq3 : w1.cell? ⟨w.heap.size + 1, 3, none⟩ = some (.int .i64 l.pub) := cell_of_row w1 _ 3 _ _ _ hL9; clear hB9 hL9))
    all_goals (go_wp2_with fail)
    all_goals go_meet
    all_goals exact ⟨rfl, rfl, ⟨hb1'.os, hb1'.tape, hb1'.output, hb1'.size, hb1'.block⟩⟩
  case rest =>
    obtain ⟨rfl, rfl, hbc⟩ := hcut; have hszc := hbc.size
    have hBc := (hbc.block w.heap.size (by omega)).trans HB.out
    have hLc := (hbc.block (w.heap.size + 1) (by omega)).trans HL.out
    have HRc := hid ((hbc.block (w.heap.size + 1 + 1) (by omega)).trans HR.out)
    have HWc : Hid (Below w.heap.size w wc) := below_tr HW.out hbc; have HEc : Hid (EntsAt wc (.slice aa nn cc) s.kept) := HEx.out.next hbc; have k9 : wc.cell? ⟨w.heap.size, 9, none⟩ = some (.string (str s.inn)) := cell_of_row wc _ 9 _ _ _ hBc
    have fB : ∀ j, wc.frozen? ⟨w.heap.size, j, none⟩ = false := fun j => frozen_of_row wc _ j _ _ hBc
    have HBc := hid hBc; have HLc := hid hLc; clear hbc hBc hLc k7 k10 q3 HEx cr1 cc1
    go_upto_region 9 with fail
    clear k9 fB; have hBn : (wc.setCell ⟨w.heap.size, 9, none⟩ (.string ti)).heap[w.heap.size]? = some (.cells #[.int .i64 s.role, .int .i64 s.step, .int .i64 s.sent, .int .i64 s.got, .int .i64 s.prev, .int .i64 s.skip, .int .i64 s.cap, .string (str s.root), .string (str s.out), .string ti, .int .i64 s.secret, .int .i64 s.peer, .slice aa nn cc] 63) := heap_setCell_same _ _ _ _ _ _ HBc.out
    have hLn := (heap_setCell_other wc ⟨w.heap.size, 9, none⟩ (w.heap.size + 1) (.string ti) (by show w.heap.size + 1 ≠ w.heap.size; omega)).trans HLc.out
    have hRn := (heap_setCell_other wc ⟨w.heap.size, 9, none⟩ (w.heap.size + 1 + 1) (.string ti) (by show w.heap.size + 1 + 1 ≠ w.heap.size; omega)).trans HRc.out
    have hEn : EntsAt (wc.setCell ⟨w.heap.size, 9, none⟩ (.string ti)) (.slice aa nn cc) s.kept := EntsAt.put HEc.out HOB.out _ _
    have hWn : Below w.heap.size w (wc.setCell ⟨w.heap.size, 9, none⟩ (.string ti)) := HWc.out.setCell (by exact Nat.le_refl _) _
    have hSn : (wc.setCell ⟨w.heap.size, 9, none⟩ (.string ti)).heap.size = wc.heap.size := World.size_setCell _ _ _
    generalize (wc.setCell ⟨w.heap.size, 9, none⟩ (.string ti)) = wd at hBn hLn hRn hEn hWn hSn ⊢
    have hszd : w.heap.size + 1 + 1 + 1 ≤ wd.heap.size := by omega
    have q3 : wd.cell? ⟨w.heap.size + 1, 3, none⟩ = some (.int .i64 l.pub) := cell_of_row wd _ 3 _ _ _ hLn; have HBd := hid hBn; have HLd := hid hLn; have HRd := hid hRn; have HEd := hid hEn; have HWd := hid hWn; clear hBn hLn hRn hEn hWn hSn HBc HLc HRc HEc HWc
    go_upto_region 10 with (first | (go_at_call 89; go_must (with_reducible refine (cr2 _).mono ?_); rintro e w' ⟨rfl, hw⟩; rw [hw]; clear hw w') | (go_at_call 97; (with_reducible refine (cc2 _).mono ?_); rintro e we ⟨rfl, hbe⟩))
    have hsze := hbe.size
    have hBe := (hbe.block w.heap.size (by omega)).trans HBd.out
    have hLe := (hbe.block (w.heap.size + 1) (by omega)).trans HLd.out
    have hRe : we.heap[w.heap.size + 1 + 1]? = some (.cells #[.int .i64 0, .int .i64 0, .int .i64 0, .int .i64 0, .int .i64 0, .int .i64 0, .int .i64 0, .string ⟨#[]⟩, .string ⟨#[]⟩, .string ⟨#[]⟩, .int .i64 0, .int .i64 0, .slice none 0 0] 63) := (hbe.block (w.heap.size + 1 + 1) (by omega)).trans HRd.out
    have hWe : Below w.heap.size w we := below_tr HWd.out hbe; have hEe : EntsAt we (.slice aa nn cc) s.kept := HEd.out.next hbe; obtain ⟨k0, k1, k2, k3, k4, k5, k6, k7, k8, k9, k10, k11, k12⟩ := cells13 hBe; have q0 : we.cell? ⟨w.heap.size + 1, 0, none⟩ = some (.int .i64 l.step) := cell_of_row we _ 0 _ _ _ hLe; have r3 : we.cell? ⟨w.heap.size + 1, 3, none⟩ = some (.int .i64 l.pub) := cell_of_row we _ 3 _ _ _ hLe
    have fB : ∀ j, we.frozen? ⟨w.heap.size, j, none⟩ = false := fun j => frozen_of_row we _ j _ _ hBe
    have HBe := hid hBe; have HLe := hid hLe; have HRe := hid hRe; have HEe := hid hEe; have HWe := hid hWe; clear hBe hLe hRe hEe hWe hbe HBd HLd HRd HEd HWd q3 cr2 cc2
    go_upto_region 18 with fail
    clear k0 k1 k2 k3 k4 k5 k6 k7 k8 k9 k10 k11 k12 q0 r3 fB; have hB0 : (we.setCell ⟨w.heap.size, 8, none⟩ (.string to2)).heap[w.heap.size]? = some (.cells #[.int .i64 s.role, .int .i64 s.step, .int .i64 s.sent, .int .i64 s.got, .int .i64 s.prev, .int .i64 s.skip, .int .i64 s.cap, .string (str s.root), .string to2, .string ti, .int .i64 s.secret, .int .i64 s.peer, .slice aa nn cc] 63) := heap_setCell_same _ _ _ _ _ _ HBe.out
    have hL0 := (heap_setCell_other we ⟨w.heap.size, 8, none⟩ (w.heap.size + 1) (.string to2) (by show w.heap.size + 1 ≠ w.heap.size; omega)).trans HLe.out
    have hR0 := (heap_setCell_other we ⟨w.heap.size, 8, none⟩ (w.heap.size + 1 + 1) (.string to2) (by show w.heap.size + 1 + 1 ≠ w.heap.size; omega)).trans HRe.out
    have hE0 : EntsAt (we.setCell ⟨w.heap.size, 8, none⟩ (.string to2)) (.slice aa nn cc) s.kept := EntsAt.put HEe.out HOB.out _ _
    have hW0 : Below w.heap.size w (we.setCell ⟨w.heap.size, 8, none⟩ (.string to2)) := Below.setCell HWe.out (by exact Nat.le_refl _) _
    have hS0 : (we.setCell ⟨w.heap.size, 8, none⟩ (.string to2)).heap.size = we.heap.size := World.size_setCell _ _ _
    generalize (we.setCell ⟨w.heap.size, 8, none⟩ (.string to2)) = s0 at hB0 hL0 hR0 hE0 hW0 hS0 ⊢
    have hB1 : (s0.setCell ⟨w.heap.size, 7, none⟩ (.string tr)).heap[w.heap.size]? = some (.cells #[.int .i64 s.role, .int .i64 s.step, .int .i64 s.sent, .int .i64 s.got, .int .i64 s.prev, .int .i64 s.skip, .int .i64 s.cap, .string tr, .string to2, .string ti, .int .i64 s.secret, .int .i64 s.peer, .slice aa nn cc] 63) := heap_setCell_same _ _ _ _ _ _ hB0
    have hL1 := (heap_setCell_other s0 ⟨w.heap.size, 7, none⟩ (w.heap.size + 1) (.string tr) (by show w.heap.size + 1 ≠ w.heap.size; omega)).trans hL0
    have hR1 := (heap_setCell_other s0 ⟨w.heap.size, 7, none⟩ (w.heap.size + 1 + 1) (.string tr) (by show w.heap.size + 1 + 1 ≠ w.heap.size; omega)).trans hR0
    have hE1 : EntsAt (s0.setCell ⟨w.heap.size, 7, none⟩ (.string tr)) (.slice aa nn cc) s.kept := EntsAt.put hE0 HOB.out _ _
    have hW1 : Below w.heap.size w (s0.setCell ⟨w.heap.size, 7, none⟩ (.string tr)) := Below.setCell hW0 (by exact Nat.le_refl _) _
    have hS1 : (s0.setCell ⟨w.heap.size, 7, none⟩ (.string tr)).heap.size = s0.heap.size := World.size_setCell _ _ _
    generalize (s0.setCell ⟨w.heap.size, 7, none⟩ (.string tr)) = s1 at hB1 hL1 hR1 hE1 hW1 hS1 ⊢
    have hB2 : (s1.setCell ⟨w.heap.size, 10, none⟩ (.int .i64 draw)).heap[w.heap.size]? = some (.cells #[.int .i64 s.role, .int .i64 s.step, .int .i64 s.sent, .int .i64 s.got, .int .i64 s.prev, .int .i64 s.skip, .int .i64 s.cap, .string tr, .string to2, .string ti, .int .i64 draw, .int .i64 s.peer, .slice aa nn cc] 63) := heap_setCell_same _ _ _ _ _ _ hB1
    have hL2 := (heap_setCell_other s1 ⟨w.heap.size, 10, none⟩ (w.heap.size + 1) (.int .i64 draw) (by show w.heap.size + 1 ≠ w.heap.size; omega)).trans hL1
    have hR2 := (heap_setCell_other s1 ⟨w.heap.size, 10, none⟩ (w.heap.size + 1 + 1) (.int .i64 draw) (by show w.heap.size + 1 + 1 ≠ w.heap.size; omega)).trans hR1
    have hE2 : EntsAt (s1.setCell ⟨w.heap.size, 10, none⟩ (.int .i64 draw)) (.slice aa nn cc) s.kept := EntsAt.put hE1 HOB.out _ _
    have hW2 : Below w.heap.size w (s1.setCell ⟨w.heap.size, 10, none⟩ (.int .i64 draw)) := Below.setCell hW1 (by exact Nat.le_refl _) _
    have hS2 : (s1.setCell ⟨w.heap.size, 10, none⟩ (.int .i64 draw)).heap.size = s1.heap.size := World.size_setCell _ _ _
    generalize (s1.setCell ⟨w.heap.size, 10, none⟩ (.int .i64 draw)) = s2 at hB2 hL2 hR2 hE2 hW2 hS2 ⊢
    have hB3 : (s2.setCell ⟨w.heap.size, 11, none⟩ (.int .i64 l.pub)).heap[w.heap.size]? = some (.cells #[.int .i64 s.role, .int .i64 s.step, .int .i64 s.sent, .int .i64 s.got, .int .i64 s.prev, .int .i64 s.skip, .int .i64 s.cap, .string tr, .string to2, .string ti, .int .i64 draw, .int .i64 l.pub, .slice aa nn cc] 63) := heap_setCell_same _ _ _ _ _ _ hB2
    have hL3 := (heap_setCell_other s2 ⟨w.heap.size, 11, none⟩ (w.heap.size + 1) (.int .i64 l.pub) (by show w.heap.size + 1 ≠ w.heap.size; omega)).trans hL2
    have hR3 := (heap_setCell_other s2 ⟨w.heap.size, 11, none⟩ (w.heap.size + 1 + 1) (.int .i64 l.pub) (by show w.heap.size + 1 + 1 ≠ w.heap.size; omega)).trans hR2
    have hE3 : EntsAt (s2.setCell ⟨w.heap.size, 11, none⟩ (.int .i64 l.pub)) (.slice aa nn cc) s.kept := EntsAt.put hE2 HOB.out _ _
    have hW3 : Below w.heap.size w (s2.setCell ⟨w.heap.size, 11, none⟩ (.int .i64 l.pub)) := Below.setCell hW2 (by exact Nat.le_refl _) _
    have hS3 : (s2.setCell ⟨w.heap.size, 11, none⟩ (.int .i64 l.pub)).heap.size = s2.heap.size := World.size_setCell _ _ _
    generalize (s2.setCell ⟨w.heap.size, 11, none⟩ (.int .i64 l.pub)) = s3 at hB3 hL3 hR3 hE3 hW3 hS3 ⊢
    have hB4 : (s3.setCell ⟨w.heap.size, 1, none⟩ (.int .i64 ((l.step : Int) + 1))).heap[w.heap.size]? = some (.cells #[.int .i64 s.role, .int .i64 ((l.step : Int) + 1), .int .i64 s.sent, .int .i64 s.got, .int .i64 s.prev, .int .i64 s.skip, .int .i64 s.cap, .string tr, .string to2, .string ti, .int .i64 draw, .int .i64 l.pub, .slice aa nn cc] 63) := heap_setCell_same _ _ _ _ _ _ hB3
    have hL4 : (s3.setCell ⟨w.heap.size, 1, none⟩ (.int .i64 ((l.step : Int) + 1))).heap[w.heap.size + 1]? = some (.cells #[.int .i64 l.step, .int .i64 l.count, .int .i64 l.prev, .int .i64 l.pub, .string (str l.head), .string (str l.body)] 145) := (heap_setCell_other _ _ _ _ (by show w.heap.size + 1 ≠ w.heap.size; omega)).trans hL3
    have hR4 : (s3.setCell ⟨w.heap.size, 1, none⟩ (.int .i64 ((l.step : Int) + 1))).heap[w.heap.size + 1 + 1]? = some (.cells #[.int .i64 0, .int .i64 0, .int .i64 0, .int .i64 0, .int .i64 0, .int .i64 0, .int .i64 0, .string ⟨#[]⟩, .string ⟨#[]⟩, .string ⟨#[]⟩, .int .i64 0, .int .i64 0, .slice none 0 0] 63) := (heap_setCell_other _ _ _ _ (by show w.heap.size + 1 + 1 ≠ w.heap.size; omega)).trans hR3
    have hE4 : EntsAt (s3.setCell ⟨w.heap.size, 1, none⟩ (.int .i64 ((l.step : Int) + 1))) (.slice aa nn cc) s.kept := EntsAt.put hE3 HOB.out _ _
    have hW4 : Below w.heap.size w (s3.setCell ⟨w.heap.size, 1, none⟩ (.int .i64 ((l.step : Int) + 1))) := Below.setCell hW3 (by exact Nat.le_refl _) _
    have hS4 : (s3.setCell ⟨w.heap.size, 1, none⟩ (.int .i64 ((l.step : Int) + 1))).heap.size = s3.heap.size := World.size_setCell _ _ _
    generalize (s3.setCell ⟨w.heap.size, 1, none⟩ (.int .i64 ((l.step : Int) + 1))) = s4 at hB4 hL4 hR4 hE4 hW4 hS4 ⊢
    have hB5 : (s4.setCell ⟨w.heap.size, 4, none⟩ (.int .i64 s.sent)).heap[w.heap.size]? = some (.cells #[.int .i64 s.role, .int .i64 ((l.step : Int) + 1), .int .i64 s.sent, .int .i64 s.got, .int .i64 s.sent, .int .i64 s.skip, .int .i64 s.cap, .string tr, .string to2, .string ti, .int .i64 draw, .int .i64 l.pub, .slice aa nn cc] 63) := heap_setCell_same _ _ _ _ _ _ hB4
    have hL5 := (heap_setCell_other s4 ⟨w.heap.size, 4, none⟩ (w.heap.size + 1) (.int .i64 s.sent) (by show w.heap.size + 1 ≠ w.heap.size; omega)).trans hL4
    have hR5 := (heap_setCell_other s4 ⟨w.heap.size, 4, none⟩ (w.heap.size + 1 + 1) (.int .i64 s.sent) (by show w.heap.size + 1 + 1 ≠ w.heap.size; omega)).trans hR4
    have hE5 : EntsAt (s4.setCell ⟨w.heap.size, 4, none⟩ (.int .i64 s.sent)) (.slice aa nn cc) s.kept := EntsAt.put hE4 HOB.out _ _
    have hW5 : Below w.heap.size w (s4.setCell ⟨w.heap.size, 4, none⟩ (.int .i64 s.sent)) := Below.setCell hW4 (by exact Nat.le_refl _) _
    have hS5 : (s4.setCell ⟨w.heap.size, 4, none⟩ (.int .i64 s.sent)).heap.size = s4.heap.size := World.size_setCell _ _ _
    generalize (s4.setCell ⟨w.heap.size, 4, none⟩ (.int .i64 s.sent)) = s5 at hB5 hL5 hR5 hE5 hW5 hS5 ⊢
    have hB6 : (s5.setCell ⟨w.heap.size, 2, none⟩ (.int .i64 0)).heap[w.heap.size]? = some (.cells #[.int .i64 s.role, .int .i64 ((l.step : Int) + 1), .int .i64 0, .int .i64 s.got, .int .i64 s.sent, .int .i64 s.skip, .int .i64 s.cap, .string tr, .string to2, .string ti, .int .i64 draw, .int .i64 l.pub, .slice aa nn cc] 63) := heap_setCell_same _ _ _ _ _ _ hB5
    have hL6 := (heap_setCell_other s5 ⟨w.heap.size, 2, none⟩ (w.heap.size + 1) (.int .i64 0) (by show w.heap.size + 1 ≠ w.heap.size; omega)).trans hL5
    have hR6 := (heap_setCell_other s5 ⟨w.heap.size, 2, none⟩ (w.heap.size + 1 + 1) (.int .i64 0) (by show w.heap.size + 1 + 1 ≠ w.heap.size; omega)).trans hR5
    have hE6 : EntsAt (s5.setCell ⟨w.heap.size, 2, none⟩ (.int .i64 0)) (.slice aa nn cc) s.kept := EntsAt.put hE5 HOB.out _ _
    have hW6 : Below w.heap.size w (s5.setCell ⟨w.heap.size, 2, none⟩ (.int .i64 0)) := Below.setCell hW5 (by exact Nat.le_refl _) _
    have hS6 : (s5.setCell ⟨w.heap.size, 2, none⟩ (.int .i64 0)).heap.size = s5.heap.size := World.size_setCell _ _ _
    generalize (s5.setCell ⟨w.heap.size, 2, none⟩ (.int .i64 0)) = s6 at hB6 hL6 hR6 hE6 hW6 hS6 ⊢
    have hB7 : (s6.setCell ⟨w.heap.size, 3, none⟩ (.int .i64 0)).heap[w.heap.size]? = some (.cells #[.int .i64 s.role, .int .i64 ((l.step : Int) + 1), .int .i64 0, .int .i64 0, .int .i64 s.sent, .int .i64 s.skip, .int .i64 s.cap, .string tr, .string to2, .string ti, .int .i64 draw, .int .i64 l.pub, .slice aa nn cc] 63) := heap_setCell_same _ _ _ _ _ _ hB6
    have hL7 := (heap_setCell_other s6 ⟨w.heap.size, 3, none⟩ (w.heap.size + 1) (.int .i64 0) (by show w.heap.size + 1 ≠ w.heap.size; omega)).trans hL6
    have hR7 := (heap_setCell_other s6 ⟨w.heap.size, 3, none⟩ (w.heap.size + 1 + 1) (.int .i64 0) (by show w.heap.size + 1 + 1 ≠ w.heap.size; omega)).trans hR6
    have hE7 : EntsAt (s6.setCell ⟨w.heap.size, 3, none⟩ (.int .i64 0)) (.slice aa nn cc) s.kept := EntsAt.put hE6 HOB.out _ _
    have hW7 : Below w.heap.size w (s6.setCell ⟨w.heap.size, 3, none⟩ (.int .i64 0)) := Below.setCell hW6 (by exact Nat.le_refl _) _
    have hS7 : (s6.setCell ⟨w.heap.size, 3, none⟩ (.int .i64 0)).heap.size = s6.heap.size := World.size_setCell _ _ _
    generalize (s6.setCell ⟨w.heap.size, 3, none⟩ (.int .i64 0)) = wt at hB7 hL7 hR7 hE7 hW7 hS7 ⊢
    have hszt : w.heap.size + 1 + 1 + 1 ≤ wt.heap.size := by omega
    have HRt := hid hR7; have HWt := hid hW7; have cd := cdue wt aa nn cc hE7; obtain ⟨k0, k1, k2, k3, k4, k5, k6, k7, k8, k9, k10, k11, k12⟩ := cells13 hB7; obtain ⟨q0, q1, q2, q3, q4, q5⟩ := cells6 hL7; clear hB0 hL0 hR0 hE0 hW0 hS0 hB1 hL1 hR1 hE1 hW1 hS1 hB2 hL2 hR2 hE2 hW2 hS2 hB3 hL3 hR3 hE3 hW3 hS3 hB4 hL4 hR4 hE4 hW4 hS4 hB5 hL5 hR5 hE5 hW5 hS5 hB6 hL6 hR6 hE6 hW6 hS6 hB7 hL7 hR7 hE7 hW7 hS7 HBe HLe HRe HEe HWe cdue HOB
    obtain ⟨er, her⟩ : ∃ er, er = (refDueR t l.count).1 := ⟨_, rfl⟩
    have HER : Hid (er = (refDueR t l.count).1) := her
    have cq : Calls Tryz.prog 142 #[.agg #[.int .i64 s.role, .int .i64 ((l.step : Int) + 1), .int .i64 0, .int .i64 0, .int .i64 s.sent, .int .i64 s.skip, .int .i64 s.cap, .string tr, .string to2, .string ti, .int .i64 draw, .int .i64 l.pub, .slice aa nn cc], .agg #[.int .i64 l.step, .int .i64 l.count, .int .i64 l.prev, .int .i64 l.pub, .string (str l.head), .string (str l.body)]] wt fun e w' => (∃ (ky : ByteArray) (x : StM) (aL : Option Addr) (nL cL : Nat), e = .returned (.tuple #[.string ky, .agg #[.int .i64 x.role, .int .i64 x.step, .int .i64 x.sent, .int .i64 x.got, .int .i64 x.prev, .int .i64 x.skip, .int .i64 x.cap, .string (str x.root), .string (str x.out), .string (str x.inn), .int .i64 x.secret, .int .i64 x.peer, .slice aL nL cL], .int .i64 er]) ∧ TQ (refDueR t l.count) wt.heap.size w' ky x aL nL cL) ∧ Below wt.heap.size wt w' := by
      rw [her]; exact cd
    clear her; clear cd
    go_upto_region 19 with (first | (go_at_call 142; (with_reducible refine cq.mono ?_); rintro e w5 ⟨⟨ky, x, aL, nL, cL, rfl, hq5⟩, hb5⟩))
    have hsz5 := hb5.size
    obtain ⟨ob, eob⟩ : ∃ ob, ob = Obj.cells #[.int .i64 x.role, .int .i64 x.step, .int .i64 x.sent, .int .i64 x.got, .int .i64 x.prev, .int .i64 x.skip, .int .i64 x.cap, .string (str x.root), .string (str x.out), .string (str x.inn), .int .i64 x.secret, .int .i64 x.peer, .slice aL nL cL] 63 := ⟨_, rfl⟩
    rw [← eob]; have hX5 := heap_alloc_new w5 ob
    have hR5 : (w5.alloc ob).heap[w.heap.size + 1 + 1]? = some (.cells #[.int .i64 0, .int .i64 0, .int .i64 0, .int .i64 0, .int .i64 0, .int .i64 0, .int .i64 0, .string ⟨#[]⟩, .string ⟨#[]⟩, .string ⟨#[]⟩, .int .i64 0, .int .i64 0, .slice none 0 0] 63) := (Below.heap_alloc _ _ _ (by omega)).trans ((hb5.block (w.heap.size + 1 + 1) (by omega)).trans HRt.out)
    have hW5 : Below w.heap.size w (w5.alloc ob) := (below_tr HWt.out hb5).alloc (by omega) _
    have hQ5 : TQ (refDueR t l.count) wt.heap.size (w5.alloc ob) ky x aL nL cL := hq5.alloc _
    generalize (w5.alloc ob) = wz at hX5 hR5 hW5 hQ5 ⊢
    subst eob
    generalize w5.heap.size = B5 at hX5 ⊢
    have HZ := hid hW5; have HQZ : Hid (TQ (refDueR t l.count) wt.heap.size wz ky x aL nL cL) := hQ5; clear hW5 hQ5 hq5 hb5 hsz5 cq k0 k1 k2 k3 k4 k5 k6 k7 k8 k9 k10 k11 k12 q0 q1 q2 q3 q4 q5; obtain ⟨u0, u1, u2, u3, u4, u5, u6, u7, u8, u9, u10, u11, u12⟩ := cells13 hX5; obtain ⟨a0, a1, a2, a3, a4, a5, a6, a7, a8, a9, a10, a11, a12⟩ := cells13 hR5
    have fA : ∀ j, wz.frozen? ⟨w.heap.size + 1 + 1, j, none⟩ = false := fun j => frozen_of_row wz _ j _ _ hR5
    clear hX5 hR5
    go_region
    all_goals go_wp2
    all_goals (try simp only [Exit.inBlock, Exit.then])
    all_goals (refine bodyPost_ret (v := .tuple #[.string ky, .agg #[.int .i64 x.role, .int .i64 x.step, .int .i64 x.sent, .int .i64 x.got, .int .i64 x.prev, .int .i64 x.skip, .int .i64 x.cap, .string (str x.root), .string (str x.out), .string (str x.inn), .int .i64 x.secret, .int .i64 x.peer, .slice aL nL cL], .int .i64 er]) ?_ ?_ ?_)
    all_goals first
      | rfl
      | (rw [results_tct (fn := Tryz.f141) rfl]; simp [go_sem, a0, a1, a2, a3, a4, a5, a6, a7, a8, a9, a10, a11, a12])
      | (refine ⟨⟨ky, x, aL, nL, cL, by rw [HQ.out, HER.out]; rfl, ?_⟩, ?_⟩
         · rw [HQ.out]
           refine TQ.base (base := wt.heap.size) ?_ (by omega)
           repeat (first | (with_reducible refine TQ.put ?_ (by show w.heap.size + 1 + 1 < wt.heap.size; omega) _ _) | (with_reducible refine TQ.drew ?_))
           exact HQZ.out
         · repeat (first | (with_reducible refine Below.setCell ?_ (by show w.heap.size ≤ w.heap.size + 1 + 1; omega) _) | (with_reducible refine Below.drew ?_))
           exact HZ.out)
theorem refTurning_bad (s : StM) (aa : Option Addr) (nn cc : Nat) (l : LetM) (draw : Nat) (w : World) (hls : l.step = s.step + 1) (h255 : s.step ≤ 250) (hc : l.count ≤ 254) (hpv : l.prev ≤ 150) (hg : s.got ≤ 255) (hl : s.kept.length ≤ 100) (hin : s.inn.length = 8) (hroot : s.root.length = 8) (hcap : s.cap ≤ 255) (hs : s.secret < 2147483647) (hp : l.pub < 2147483647) (hd : draw < 2147483647) (hv : EntsAt w (.slice aa nn cc) s.kept) (h2 : 2 ≤ s.step) (hbad : skipBad s l.prev) :
    Calls Tryz.prog 141 #[.agg #[.int .i64 s.role, .int .i64 s.step, .int .i64 s.sent, .int .i64 s.got, .int .i64 s.prev, .int .i64 s.skip, .int .i64 s.cap, .string (str s.root), .string (str s.out), .string (str s.inn), .int .i64 s.secret, .int .i64 s.peer, .slice aa nn cc], .agg #[.int .i64 l.step, .int .i64 l.count, .int .i64 l.prev, .int .i64 l.pub, .string (str l.head), .string (str l.body)], .int .i64 draw] w fun e w' => TakeRef (refTurnR s l draw) w.heap.size w' e ∧ Below w.heap.size w w' := by
  have HQ : Hid (refTurnR s l draw = (17, [], s)) := by
    show _ = _
    rw [refTurnR, if_pos ⟨h2, hbad⟩]
  have hI : (2 : Int) ≤ (s.step : Int) := by omega
  obtain ⟨st1, hst1⟩ : ∃ st1, st1 = s.step - 1 := ⟨_, rfl⟩
  have hst : (s.step : Int) - 1 = (st1 : Int) := by omega
  have cs := fun w => span_any s.inn st1 s.got l.prev w hin (by omega) (by omega)
  have hsl := spanL_length s.inn st1 s.got (l.prev - s.got)
  have hN : ofL (s.kept ++ spanL s.inn st1 s.got (l.prev - s.got)) st1 = ofL s.kept (s.step - 1) + (l.prev - s.got) := by rw [ofL_append, ofL_span, if_pos rfl, hst1]
  obtain ⟨b1, b2⟩ := hbad
  generalize spanL s.inn st1 s.got (l.prev - s.got) = sp at *
  rw [← hsl] at cs
  have cj := fun va w ha hb => joined_any s.kept sp (.slice aa nn cc) va w ha hb (by omega) (by omega)
  have hal : (s.kept ++ sp).length ≤ 500 := by rw [List.length_append]; omega
  obtain ⟨al, hAl⟩ : ∃ al, al = s.kept ++ sp := ⟨_, rfl⟩
  rw [← hAl] at cj hal hN
  have co := fun v w h => of_any al v st1 w h (by omega)
  generalize ofL al st1 = N at *
  have i1 : (s.skip : Int) < (N : Int) := by omega
  have i2 : (0 : Int) < (sp.length : Int) := by omega
  clear b1 b2 hN hst1 hsl hAl h2 hls
  go_enter Tryz.func141, Tryz.ntmps141
  go_upto_region 1 with fail
  obtain ⟨wb, ewb, hB, hL, hR, hW, hlt⟩ := alloc3e w (.cells #[.int .i64 s.role, .int .i64 s.step, .int .i64 s.sent, .int .i64 s.got, .int .i64 s.prev, .int .i64 s.skip, .int .i64 s.cap, .string (str s.root), .string (str s.out), .string (str s.inn), .int .i64 s.secret, .int .i64 s.peer, .slice aa nn cc] 63) (.cells #[.int .i64 l.step, .int .i64 l.count, .int .i64 l.prev, .int .i64 l.pub, .string (str l.head), .string (str l.body)] 145) (.cells #[.int .i64 0, .int .i64 0, .int .i64 0, .int .i64 0, .int .i64 0, .int .i64 0, .int .i64 0, .string ⟨#[]⟩, .string ⟨#[]⟩, .string ⟨#[]⟩, .int .i64 0, .int .i64 0, .slice none 0 0] 63); rw [← ewb]; clear ewb; have HB := hid hB; have HL := hid hL; have HR := hid hR; have HW := hid hW; have HV : Hid (EntsAt wb (.slice aa nn cc) s.kept) := hv.next hW; have k1 : wb.cell? ⟨w.heap.size, 1, none⟩ = some (.int .i64 s.step) := cell_of_row wb _ 1 _ _ _ hB; have k3 : wb.cell? ⟨w.heap.size, 3, none⟩ = some (.int .i64 s.got) := cell_of_row wb _ 3 _ _ _ hB; have k9 : wb.cell? ⟨w.heap.size, 9, none⟩ = some (.string (str s.inn)) := cell_of_row wb _ 9 _ _ _ hB; have k12 : wb.cell? ⟨w.heap.size, 12, none⟩ = some (.slice aa nn cc) := cell_of_row wb _ 12 _ _ _ hB; have q2 : wb.cell? ⟨w.heap.size + 1, 2, none⟩ = some (.int .i64 l.prev) := cell_of_row wb _ 2 _ _ _ hL; clear hB hL hR hW hv
  go_upto_region 3 with (first | (go_at_call 157; (with_reducible refine (cs _).mono ?_); rintro e w1 ⟨⟨v1, rfl, hown1⟩, hb1⟩; obtain ⟨a1', c1', hv1⟩ := (EntsAt.of_own hown1).form; subst hv1))
  have hsz1 := hb1.size
  have hB1 := (hb1.block w.heap.size (by omega)).trans HB.out
  have HL1 := hid ((hb1.block (w.heap.size + 1) (by omega)).trans HL.out)
  have HR1 := hid ((hb1.block (w.heap.size + 1 + 1) (by omega)).trans HR.out)
  have HV1 : Hid (EntsAt w1 (.slice aa nn cc) s.kept) := HV.out.next hb1; have HM1 : Hid (EntsAt w1 (.slice a1' sp.length c1') sp) := EntsAt.of_own hown1; have HW1 : Hid (Below w.heap.size w w1) := below_tr HW.out hb1; have HB1 := hid hB1; clear k1 k3 k9 k12 q2; have k12 : w1.cell? ⟨w.heap.size, 12, none⟩ = some (.slice aa nn cc) := cell_of_row w1 _ 12 _ _ _ hB1; clear hB1 hb1 hown1 HB HL HR HW HV cs
  go_upto_region 4 with (first | (go_at_call 158; (with_reducible refine (cj _ _ HV1.out HM1.out).mono ?_); rintro e w2 ⟨⟨v2, rfl, hown2⟩, hb2⟩; obtain ⟨aK, nK, cK, hv2⟩ := ownsK_form hown2; subst hv2; have hsz2 := hb2.size; have hB2 := (hb2.block w.heap.size (by omega)).trans HB1.out; have y12 : w2.cell? ⟨w.heap.size, 12, none⟩ = some (.slice aa nn cc) := cell_of_row w2 _ 12 _ _ _ hB2; have fB : ∀ j, w2.frozen? ⟨w.heap.size, j, none⟩ = false := fun j => frozen_of_row w2 _ j _ _ hB2; have HB2 := hid hB2; have HO2 : Hid (w2.ownsRow wb.heap.size 119 3 (.slice aK nK cK) al.length (entsCells al)) := ownsRow_base hown2 hsz1; clear hB2 hown2))
  have hBn : (w2.setCell ⟨w.heap.size, 12, none⟩ (.slice aK nK cK)).heap[w.heap.size]? = some (.cells #[.int .i64 s.role, .int .i64 s.step, .int .i64 s.sent, .int .i64 s.got, .int .i64 s.prev, .int .i64 s.skip, .int .i64 s.cap, .string (str s.root), .string (str s.out), .string (str s.inn), .int .i64 s.secret, .int .i64 s.peer, .slice aK nK cK] 63) := heap_setCell_same _ _ _ _ _ _ HB2.out
  have hLn : (w2.setCell ⟨w.heap.size, 12, none⟩ (.slice aK nK cK)).heap[w.heap.size + 1]? = some (.cells #[.int .i64 l.step, .int .i64 l.count, .int .i64 l.prev, .int .i64 l.pub, .string (str l.head), .string (str l.body)] 145) := (heap_setCell_other _ _ _ _ (by show w.heap.size + 1 ≠ w.heap.size; omega)).trans ((hb2.block (w.heap.size + 1) (by omega)).trans HL1.out)
  have hRn : (w2.setCell ⟨w.heap.size, 12, none⟩ (.slice aK nK cK)).heap[w.heap.size + 1 + 1]? = some (.cells #[.int .i64 0, .int .i64 0, .int .i64 0, .int .i64 0, .int .i64 0, .int .i64 0, .int .i64 0, .string ⟨#[]⟩, .string ⟨#[]⟩, .string ⟨#[]⟩, .int .i64 0, .int .i64 0, .slice none 0 0] 63) := (heap_setCell_other _ _ _ _ (by show w.heap.size + 1 + 1 ≠ w.heap.size; omega)).trans ((hb2.block (w.heap.size + 1 + 1) (by omega)).trans HR1.out)
  have hOn : (w2.setCell ⟨w.heap.size, 12, none⟩ (.slice aK nK cK)).ownsRow wb.heap.size 119 3 (.slice aK nK cK) al.length (entsCells al) := ownsRow_setCell_below HO2.out (by show w.heap.size < _; omega) _
  have hWn : Below w.heap.size w (w2.setCell ⟨w.heap.size, 12, none⟩ (.slice aK nK cK)) := (below_tr HW1.out hb2).setCell (by exact Nat.le_refl _) _
  have hSn : (w2.setCell ⟨w.heap.size, 12, none⟩ (.slice aK nK cK)).heap.size = w2.heap.size := World.size_setCell _ _ _; clear y12 fB
  generalize (w2.setCell ⟨w.heap.size, 12, none⟩ (.slice aK nK cK)) = wx at hBn hLn hRn hOn hWn hSn ⊢
  have hszx0 : wb.heap.size ≤ wx.heap.size := by omega
  have k1 : wx.cell? ⟨w.heap.size, 1, none⟩ = some (.int .i64 s.step) := cell_of_row wx _ 1 _ _ _ hBn; have k5 : wx.cell? ⟨w.heap.size, 5, none⟩ = some (.int .i64 s.skip) := cell_of_row wx _ 5 _ _ _ hBn; have z12 : wx.cell? ⟨w.heap.size, 12, none⟩ = some (.slice aK nK cK) := cell_of_row wx _ 12 _ _ _ hBn; have HBx := hid hBn; have HLx := hid hLn; have HRx := hid hRn; have HEx : Hid (EntsAt wx (.slice aK nK cK) al) := EntsAt.of_own hOn
  have HOB : Hid (Off (fun g => g = w.heap.size) (.slice aK nK cK)) := Off.own hOn (fun g hg => by omega)
  have HWx := hid hWn; clear hBn hLn hRn hOn hWn hSn HB1 HL1 HR1 HV1 HM1 HW1 HB2 HO2 hb2 k12 cj hsz1 hsz2
  go_upto_region 6 with (first | (go_at_call 159; go_must (with_reducible refine (co _ _ HEx.out).mono ?_); rintro e w' ⟨rfl, hw⟩; rw [hw]; clear hw w'))
  clear k1 k5 z12; have HZ : Hid (Below w.heap.size w wx) := HWx.out; obtain ⟨u0, u1, u2, u3, u4, u5, u6, u7, u8, u9, u10, u11, u12⟩ := cells13 HBx.out; obtain ⟨a0, a1, a2, a3, a4, a5, a6, a7, a8, a9, a10, a11, a12⟩ := cells13 HRx.out
  have fA : ∀ j, wx.frozen? ⟨w.heap.size + 1 + 1, j, none⟩ = false := fun j => frozen_of_row wx _ j _ _ HRx.out
  go_region
  all_goals go_wp2
  all_goals (try simp only [Exit.inBlock, Exit.then])
  all_goals (refine bodyPost_ret (v := .tuple #[.string ⟨#[]⟩, .agg #[.int .i64 s.role, .int .i64 s.step, .int .i64 s.sent, .int .i64 s.got, .int .i64 s.prev, .int .i64 s.skip, .int .i64 s.cap, .string (str s.root), .string (str s.out), .string (str s.inn), .int .i64 s.secret, .int .i64 s.peer, .slice aK nK cK], .int .i64 17]) ?_ ?_ ?_)
  all_goals first
    | rfl
    | (rw [results_tct (fn := Tryz.f141) rfl]; simp [go_sem, a0, a1, a2, a3, a4, a5, a6, a7, a8, a9, a10, a11, a12])
    | (refine ⟨⟨⟨#[]⟩, { s with kept := al }, aK, nK, cK, by rw [HQ.out]; rfl, fun q => absurd q (by rw [HQ.out]; simp)⟩, ?_⟩
       · repeat (first | (with_reducible refine Below.setCell ?_ (by show w.heap.size ≤ w.heap.size + 1 + 1; omega) _) | (with_reducible refine Below.drew ?_))
         exact HZ.out)
theorem refTurning_two (s : StM) (aa : Option Addr) (nn cc : Nat) (l : LetM) (draw : Nat) (w : World) (hls : l.step = s.step + 1) (h255 : s.step ≤ 250) (hc : l.count ≤ 254) (hpv : l.prev ≤ 150) (hg : s.got ≤ 255) (hl : s.kept.length ≤ 100) (hin : s.inn.length = 8) (hroot : s.root.length = 8) (hcap : s.cap ≤ 255) (hs : s.secret < 2147483647) (hp : l.pub < 2147483647) (hd : draw < 2147483647) (hv : EntsAt w (.slice aa nn cc) s.kept) (h2 : 2 ≤ s.step) (hbad : ¬ skipBad s l.prev) (h1 : s.skip < ofL s.kept (s.step - 1) + (l.prev - s.got)) :
    Calls Tryz.prog 141 #[.agg #[.int .i64 s.role, .int .i64 s.step, .int .i64 s.sent, .int .i64 s.got, .int .i64 s.prev, .int .i64 s.skip, .int .i64 s.cap, .string (str s.root), .string (str s.out), .string (str s.inn), .int .i64 s.secret, .int .i64 s.peer, .slice aa nn cc], .agg #[.int .i64 l.step, .int .i64 l.count, .int .i64 l.prev, .int .i64 l.pub, .string (str l.head), .string (str l.body)], .int .i64 draw] w fun e w' => TakeRef (refTurnR s l draw) w.heap.size w' e ∧ Below w.heap.size w w' := by
  have hI : (2 : Int) ≤ (s.step : Int) := by omega
  obtain ⟨st1, hst1⟩ : ∃ st1, st1 = s.step - 1 := ⟨_, rfl⟩
  have hst : (s.step : Int) - 1 = (st1 : Int) := by omega
  have cs := fun w => span_any s.inn st1 s.got l.prev w hin (by omega) (by omega)
  have hsl := spanL_length s.inn st1 s.got (l.prev - s.got)
  have hN : ofL (s.kept ++ spanL s.inn st1 s.got (l.prev - s.got)) st1 = ofL s.kept (s.step - 1) + (l.prev - s.got) := by rw [ofL_append, ofL_span, if_pos rfl, hst1]
  have hkp : (passS s l.prev).kept = s.kept ++ spanL s.inn st1 s.got (l.prev - s.got) := by
    show s.kept ++ spanL s.inn (s.step - 1) s.got (l.prev - s.got) = _
    rw [hst1]
  generalize spanL s.inn st1 s.got (l.prev - s.got) = sp at *
  rw [← hsl] at cs
  have cj := fun va w ha hb => joined_any s.kept sp (.slice aa nn cc) va w ha hb (by omega) (by omega)
  have hal : (s.kept ++ sp).length ≤ 500 := by rw [List.length_append]; omega
  obtain ⟨al, hAl⟩ : ∃ al, al = s.kept ++ sp := ⟨_, rfl⟩
  rw [← hAl] at cj hal hN
  have co := fun v w h => of_any al v st1 w h (by omega)
  generalize ofL al st1 = N at *
  rw [← hAl] at hkp
  have hkl := hal; have hpc : (passS s l.prev).cap ≤ 255 := hcap
  have hlb : l.step ≤ 251 := by omega
  have cr1 := fun w => raised_any s.secret l.pub s.secret w (Nat.le_refl _) hp hs
  have cr2 := fun w => raised_any draw l.pub draw w (Nat.le_refl _) hp hd
  have hx1 := pwN_lt l.pub s.secret; have hx2 := pwN_lt l.pub draw
  have cc1 := fun w => chains_any (str s.root) (pwN l.pub s.secret) w (by rw [str_size]; exact hroot) (by omega)
  have cc2 := fun w => chains_any (str (rootL s.root (pwN l.pub s.secret))) (pwN l.pub draw) w (by rw [str_size]; exact mixed_length _ _) (by omega)
  rw [str_toList] at cc1 cc2
  obtain ⟨t, ht⟩ : ∃ t, t = turnS (passS s l.prev) l.step l.pub draw := ⟨_, rfl⟩
  have htk : t.kept = al := by rw [ht]; exact hkp
  have cdue : ∀ (w : World) (va : Option Addr) (vn vc : Nat), EntsAt w (.slice va vn vc) al → Calls Tryz.prog 142 #[.agg (stCells t (.slice va vn vc)), .agg #[.int .i64 l.step, .int .i64 l.count, .int .i64 l.prev, .int .i64 l.pub, .string (str l.head), .string (str l.body)]] w fun e w' => TakeRef (refDueR t l.count) w.heap.size w' e ∧ Below w.heap.size w w' := fun w va vn vc hE =>
    refDue_any t va vn vc l w (by rw [ht]; rfl) (by rw [ht]; show l.step + 1 ≤ 255; omega) (by rw [ht]; exact Nat.zero_le _) hc (by rw [htk]; exact hkl) (by rw [ht]; exact mixed_length _ _) (by rw [ht]; exact hpc) (by rw [htk]; exact hE)
  have htc : ∀ v, stCells t v = #[.int .i64 s.role, .int .i64 ((l.step : Int) + 1), .int .i64 0, .int .i64 0, .int .i64 s.sent, .int .i64 s.skip, .int .i64 s.cap, .string (str (rootL (rootL s.root (pwN l.pub s.secret)) (pwN l.pub draw))), .string (str (chainL (rootL s.root (pwN l.pub s.secret)) (pwN l.pub draw))), .string (str (chainL s.root (pwN l.pub s.secret))), .int .i64 draw, .int .i64 l.pub, v] := fun v => by
    rw [ht]
    simp only [stCells, turnS, Int.natCast_add]
    rfl
  simp only [htc] at cdue
  generalize str (chainL s.root (pwN l.pub s.secret)) = ti at *
  generalize str (chainL (rootL s.root (pwN l.pub s.secret)) (pwN l.pub draw)) = to2 at *
  generalize str (rootL (rootL s.root (pwN l.pub s.secret)) (pwN l.pub draw)) = tr at *
  generalize rootL s.root (pwN l.pub s.secret) = rt at *
  generalize pwN l.pub s.secret = d1 at *
  generalize pwN l.pub draw = d2 at *
  have HQ : Hid (refTurnR s l draw = refDueR t l.count) := by
    show _ = _
    rw [refTurnR, if_neg (fun q => hbad q.2), endS, if_pos h2, ht]
  have i1 : (s.skip : Int) < (N : Int) := by omega
  have i2 : ¬ (0 : Int) < (sp.length : Int) := fun q => hbad ⟨by omega, h1⟩
  clear h1; clear ht htk htc hkp hkl hpc h2 hls hroot hs hp hd hx1 hx2 hN hst1 hsl hAl hbad
  go_enter Tryz.func141, Tryz.ntmps141
  go_upto_region 1 with fail
  obtain ⟨wb, ewb, hB, hL, hR, hW, hlt⟩ := alloc3e w (.cells #[.int .i64 s.role, .int .i64 s.step, .int .i64 s.sent, .int .i64 s.got, .int .i64 s.prev, .int .i64 s.skip, .int .i64 s.cap, .string (str s.root), .string (str s.out), .string (str s.inn), .int .i64 s.secret, .int .i64 s.peer, .slice aa nn cc] 63) (.cells #[.int .i64 l.step, .int .i64 l.count, .int .i64 l.prev, .int .i64 l.pub, .string (str l.head), .string (str l.body)] 145) (.cells #[.int .i64 0, .int .i64 0, .int .i64 0, .int .i64 0, .int .i64 0, .int .i64 0, .int .i64 0, .string ⟨#[]⟩, .string ⟨#[]⟩, .string ⟨#[]⟩, .int .i64 0, .int .i64 0, .slice none 0 0] 63); rw [← ewb]; clear ewb; have HB := hid hB; have HL := hid hL; have HR := hid hR; have HW := hid hW; have HV : Hid (EntsAt wb (.slice aa nn cc) s.kept) := hv.next hW; have k1 : wb.cell? ⟨w.heap.size, 1, none⟩ = some (.int .i64 s.step) := cell_of_row wb _ 1 _ _ _ hB; have k3 : wb.cell? ⟨w.heap.size, 3, none⟩ = some (.int .i64 s.got) := cell_of_row wb _ 3 _ _ _ hB; have k9 : wb.cell? ⟨w.heap.size, 9, none⟩ = some (.string (str s.inn)) := cell_of_row wb _ 9 _ _ _ hB; have k12 : wb.cell? ⟨w.heap.size, 12, none⟩ = some (.slice aa nn cc) := cell_of_row wb _ 12 _ _ _ hB; have q2 : wb.cell? ⟨w.heap.size + 1, 2, none⟩ = some (.int .i64 l.prev) := cell_of_row wb _ 2 _ _ _ hL; clear hB hL hR hW hv
  go_upto_region 3 with (first | (go_at_call 157; (with_reducible refine (cs _).mono ?_); rintro e w1 ⟨⟨v1, rfl, hown1⟩, hb1⟩; obtain ⟨a1', c1', hv1⟩ := (EntsAt.of_own hown1).form; subst hv1))
  have hsz1 := hb1.size
  have hB1 := (hb1.block w.heap.size (by omega)).trans HB.out
  have HL1 := hid ((hb1.block (w.heap.size + 1) (by omega)).trans HL.out)
  have HR1 := hid ((hb1.block (w.heap.size + 1 + 1) (by omega)).trans HR.out)
  have HV1 : Hid (EntsAt w1 (.slice aa nn cc) s.kept) := HV.out.next hb1; have HM1 : Hid (EntsAt w1 (.slice a1' sp.length c1') sp) := EntsAt.of_own hown1; have HW1 : Hid (Below w.heap.size w w1) := below_tr HW.out hb1; have HB1 := hid hB1; clear k1 k3 k9 k12 q2; have k12 : w1.cell? ⟨w.heap.size, 12, none⟩ = some (.slice aa nn cc) := cell_of_row w1 _ 12 _ _ _ hB1; clear hB1 hb1 hown1 HB HL HR HW HV cs
  go_upto_region 4 with (first | (go_at_call 158; (with_reducible refine (cj _ _ HV1.out HM1.out).mono ?_); rintro e w2 ⟨⟨v2, rfl, hown2⟩, hb2⟩; obtain ⟨aK, nK, cK, hv2⟩ := ownsK_form hown2; subst hv2; have hsz2 := hb2.size; have hB2 := (hb2.block w.heap.size (by omega)).trans HB1.out; have y12 : w2.cell? ⟨w.heap.size, 12, none⟩ = some (.slice aa nn cc) := cell_of_row w2 _ 12 _ _ _ hB2; have fB : ∀ j, w2.frozen? ⟨w.heap.size, j, none⟩ = false := fun j => frozen_of_row w2 _ j _ _ hB2; have HB2 := hid hB2; have HO2 : Hid (w2.ownsRow wb.heap.size 119 3 (.slice aK nK cK) al.length (entsCells al)) := ownsRow_base hown2 hsz1; clear hB2 hown2))
  have hBn : (w2.setCell ⟨w.heap.size, 12, none⟩ (.slice aK nK cK)).heap[w.heap.size]? = some (.cells #[.int .i64 s.role, .int .i64 s.step, .int .i64 s.sent, .int .i64 s.got, .int .i64 s.prev, .int .i64 s.skip, .int .i64 s.cap, .string (str s.root), .string (str s.out), .string (str s.inn), .int .i64 s.secret, .int .i64 s.peer, .slice aK nK cK] 63) := heap_setCell_same _ _ _ _ _ _ HB2.out
  have hLn : (w2.setCell ⟨w.heap.size, 12, none⟩ (.slice aK nK cK)).heap[w.heap.size + 1]? = some (.cells #[.int .i64 l.step, .int .i64 l.count, .int .i64 l.prev, .int .i64 l.pub, .string (str l.head), .string (str l.body)] 145) := (heap_setCell_other _ _ _ _ (by show w.heap.size + 1 ≠ w.heap.size; omega)).trans ((hb2.block (w.heap.size + 1) (by omega)).trans HL1.out)
  have hRn : (w2.setCell ⟨w.heap.size, 12, none⟩ (.slice aK nK cK)).heap[w.heap.size + 1 + 1]? = some (.cells #[.int .i64 0, .int .i64 0, .int .i64 0, .int .i64 0, .int .i64 0, .int .i64 0, .int .i64 0, .string ⟨#[]⟩, .string ⟨#[]⟩, .string ⟨#[]⟩, .int .i64 0, .int .i64 0, .slice none 0 0] 63) := (heap_setCell_other _ _ _ _ (by show w.heap.size + 1 + 1 ≠ w.heap.size; omega)).trans ((hb2.block (w.heap.size + 1 + 1) (by omega)).trans HR1.out)
  have hOn : (w2.setCell ⟨w.heap.size, 12, none⟩ (.slice aK nK cK)).ownsRow wb.heap.size 119 3 (.slice aK nK cK) al.length (entsCells al) := ownsRow_setCell_below HO2.out (by show w.heap.size < _; omega) _
  have hWn : Below w.heap.size w (w2.setCell ⟨w.heap.size, 12, none⟩ (.slice aK nK cK)) := (below_tr HW1.out hb2).setCell (by exact Nat.le_refl _) _
  have hSn : (w2.setCell ⟨w.heap.size, 12, none⟩ (.slice aK nK cK)).heap.size = w2.heap.size := World.size_setCell _ _ _; clear y12 fB
  generalize (w2.setCell ⟨w.heap.size, 12, none⟩ (.slice aK nK cK)) = wx at hBn hLn hRn hOn hWn hSn ⊢
  have hszx0 : wb.heap.size ≤ wx.heap.size := by omega
  have k1 : wx.cell? ⟨w.heap.size, 1, none⟩ = some (.int .i64 s.step) := cell_of_row wx _ 1 _ _ _ hBn; have k5 : wx.cell? ⟨w.heap.size, 5, none⟩ = some (.int .i64 s.skip) := cell_of_row wx _ 5 _ _ _ hBn; have z12 : wx.cell? ⟨w.heap.size, 12, none⟩ = some (.slice aK nK cK) := cell_of_row wx _ 12 _ _ _ hBn; have HBx := hid hBn; have HLx := hid hLn; have HRx := hid hRn; have HEx : Hid (EntsAt wx (.slice aK nK cK) al) := EntsAt.of_own hOn
  have HOB : Hid (Off (fun g => g = w.heap.size) (.slice aK nK cK)) := Off.own hOn (fun g hg => by omega)
  have HWx := hid hWn; clear hBn hLn hRn hOn hWn hSn HB1 HL1 HR1 HV1 HM1 HW1 HB2 HO2 hb2 k12 cj hsz1 hsz2
  go_upto_region 7 with (first | (go_at_call 159; go_must (with_reducible refine (co _ _ HEx.out).mono ?_); rintro e w' ⟨rfl, hw⟩; rw [hw]; clear hw w'))
  clear k1 k5 z12 co
  have hszx : w.heap.size + 1 + 1 + 1 ≤ wx.heap.size := by omega
  have k7 : wx.cell? ⟨w.heap.size, 7, none⟩ = some (.string (str s.root)) := cell_of_row wx _ 7 _ _ _ HBx.out; have k10 : wx.cell? ⟨w.heap.size, 10, none⟩ = some (.int .i64 s.secret) := cell_of_row wx _ 10 _ _ _ HBx.out; have q3 : wx.cell? ⟨w.heap.size + 1, 3, none⟩ = some (.int .i64 l.pub) := cell_of_row wx _ 3 _ _ _ HLx.out
  go_cut [11, 12] (fun x y wy => x = .string ti ∧ y = .string (str rt) ∧ Below wx.heap.size wx wy)
  case first =>
    go_region_held3 (fun w' => w'.cell? ⟨w.heap.size, 7, none⟩ = some (.string (str s.root)) ∧ w'.cell? ⟨w.heap.size + 1, 3, none⟩ = some (.int .i64 l.pub) ∧ w'.cell? ⟨w.heap.size, 10, none⟩ = some (.int .i64 s.secret)) (first | (simp [k7, q3, k10]; done) | (simp [g7, gq3, g10]; done)) (first | (go_at_call 89; go_must (with_reducible refine (cr1 _).mono ?_); rintro e w' ⟨rfl, hw⟩; rw [hw]; clear hw w') | (go_at_call 97; go_must (with_reducible refine (cc1 _).mono ?_); rintro e w1 ⟨rfl, hb1⟩; have hb1' : Below wx.heap.size wx w1 := ⟨hb1.os, hb1.tape, hb1.output, hb1.size, hb1.block⟩; have hB9 := (hb1'.block w.heap.size (by omega)).trans HBx.out; have hL9 := (hb1'.block (w.heap.size + 1) (by omega)).trans HLx.out; have g7 : w1.cell? ⟨w.heap.size, 7, none⟩ = some (.string (str s.root)) := cell_of_row w1 _ 7 _ _ _ hB9; have g10 : w1.cell? ⟨w.heap.size, 10, none⟩ = some (.int .i64 s.secret) := cell_of_row w1 _ 10 _ _ _ hB9; have gq3 : w1.cell? ⟨w.heap.size + 1, 3, none⟩ = some (.int .i64 l.pub) := cell_of_row w1 _ 3 _ _ _ hL9; clear hB9 hL9))
    all_goals (go_wp2_with fail)
    all_goals go_meet
    all_goals exact ⟨rfl, rfl, ⟨hb1'.os, hb1'.tape, hb1'.output, hb1'.size, hb1'.block⟩⟩
  case rest =>
    obtain ⟨rfl, rfl, hbc⟩ := hcut; have hszc := hbc.size
    have hBc := (hbc.block w.heap.size (by omega)).trans HBx.out
    have hLc := (hbc.block (w.heap.size + 1) (by omega)).trans HLx.out
    have HRc := hid ((hbc.block (w.heap.size + 1 + 1) (by omega)).trans HRx.out)
    have HWc : Hid (Below w.heap.size w wc) := below_tr HWx.out hbc; have HEc : Hid (EntsAt wc (.slice aK nK cK) al) := HEx.out.next hbc; have k9 : wc.cell? ⟨w.heap.size, 9, none⟩ = some (.string (str s.inn)) := cell_of_row wc _ 9 _ _ _ hBc
    have fB : ∀ j, wc.frozen? ⟨w.heap.size, j, none⟩ = false := fun j => frozen_of_row wc _ j _ _ hBc
    have HBc := hid hBc; have HLc := hid hLc; clear hbc hBc hLc k7 k10 q3 HEx cr1 cc1
    go_upto_region 9 with fail
    clear k9 fB; have hBn : (wc.setCell ⟨w.heap.size, 9, none⟩ (.string ti)).heap[w.heap.size]? = some (.cells #[.int .i64 s.role, .int .i64 s.step, .int .i64 s.sent, .int .i64 s.got, .int .i64 s.prev, .int .i64 s.skip, .int .i64 s.cap, .string (str s.root), .string (str s.out), .string ti, .int .i64 s.secret, .int .i64 s.peer, .slice aK nK cK] 63) := heap_setCell_same _ _ _ _ _ _ HBc.out
    have hLn := (heap_setCell_other wc ⟨w.heap.size, 9, none⟩ (w.heap.size + 1) (.string ti) (by show w.heap.size + 1 ≠ w.heap.size; omega)).trans HLc.out
    have hRn := (heap_setCell_other wc ⟨w.heap.size, 9, none⟩ (w.heap.size + 1 + 1) (.string ti) (by show w.heap.size + 1 + 1 ≠ w.heap.size; omega)).trans HRc.out
    have hEn : EntsAt (wc.setCell ⟨w.heap.size, 9, none⟩ (.string ti)) (.slice aK nK cK) al := EntsAt.put HEc.out HOB.out _ _
    have hWn : Below w.heap.size w (wc.setCell ⟨w.heap.size, 9, none⟩ (.string ti)) := HWc.out.setCell (by exact Nat.le_refl _) _
    have hSn : (wc.setCell ⟨w.heap.size, 9, none⟩ (.string ti)).heap.size = wc.heap.size := World.size_setCell _ _ _
    generalize (wc.setCell ⟨w.heap.size, 9, none⟩ (.string ti)) = wd at hBn hLn hRn hEn hWn hSn ⊢
    have hszd : w.heap.size + 1 + 1 + 1 ≤ wd.heap.size := by omega
    have q3 : wd.cell? ⟨w.heap.size + 1, 3, none⟩ = some (.int .i64 l.pub) := cell_of_row wd _ 3 _ _ _ hLn; have HBd := hid hBn; have HLd := hid hLn; have HRd := hid hRn; have HEd := hid hEn; have HWd := hid hWn; clear hBn hLn hRn hEn hWn hSn HBc HLc HRc HEc HWc
    go_upto_region 10 with (first | (go_at_call 89; go_must (with_reducible refine (cr2 _).mono ?_); rintro e w' ⟨rfl, hw⟩; rw [hw]; clear hw w') | (go_at_call 97; (with_reducible refine (cc2 _).mono ?_); rintro e we ⟨rfl, hbe⟩))
    have hsze := hbe.size
    have hBe := (hbe.block w.heap.size (by omega)).trans HBd.out
    have hLe := (hbe.block (w.heap.size + 1) (by omega)).trans HLd.out
    have hRe : we.heap[w.heap.size + 1 + 1]? = some (.cells #[.int .i64 0, .int .i64 0, .int .i64 0, .int .i64 0, .int .i64 0, .int .i64 0, .int .i64 0, .string ⟨#[]⟩, .string ⟨#[]⟩, .string ⟨#[]⟩, .int .i64 0, .int .i64 0, .slice none 0 0] 63) := (hbe.block (w.heap.size + 1 + 1) (by omega)).trans HRd.out
    have hWe : Below w.heap.size w we := below_tr HWd.out hbe; have hEe : EntsAt we (.slice aK nK cK) al := HEd.out.next hbe; obtain ⟨k0, k1, k2, k3, k4, k5, k6, k7, k8, k9, k10, k11, k12⟩ := cells13 hBe; have q0 : we.cell? ⟨w.heap.size + 1, 0, none⟩ = some (.int .i64 l.step) := cell_of_row we _ 0 _ _ _ hLe; have r3 : we.cell? ⟨w.heap.size + 1, 3, none⟩ = some (.int .i64 l.pub) := cell_of_row we _ 3 _ _ _ hLe
    have fB : ∀ j, we.frozen? ⟨w.heap.size, j, none⟩ = false := fun j => frozen_of_row we _ j _ _ hBe
    have HBe := hid hBe; have HLe := hid hLe; have HRe := hid hRe; have HEe := hid hEe; have HWe := hid hWe; clear hBe hLe hRe hEe hWe hbe HBd HLd HRd HEd HWd q3 cr2 cc2
    go_upto_region 18 with fail
    clear k0 k1 k2 k3 k4 k5 k6 k7 k8 k9 k10 k11 k12 q0 r3 fB; have hB0 : (we.setCell ⟨w.heap.size, 8, none⟩ (.string to2)).heap[w.heap.size]? = some (.cells #[.int .i64 s.role, .int .i64 s.step, .int .i64 s.sent, .int .i64 s.got, .int .i64 s.prev, .int .i64 s.skip, .int .i64 s.cap, .string (str s.root), .string to2, .string ti, .int .i64 s.secret, .int .i64 s.peer, .slice aK nK cK] 63) := heap_setCell_same _ _ _ _ _ _ HBe.out
    have hL0 := (heap_setCell_other we ⟨w.heap.size, 8, none⟩ (w.heap.size + 1) (.string to2) (by show w.heap.size + 1 ≠ w.heap.size; omega)).trans HLe.out
    have hR0 := (heap_setCell_other we ⟨w.heap.size, 8, none⟩ (w.heap.size + 1 + 1) (.string to2) (by show w.heap.size + 1 + 1 ≠ w.heap.size; omega)).trans HRe.out
    have hE0 : EntsAt (we.setCell ⟨w.heap.size, 8, none⟩ (.string to2)) (.slice aK nK cK) al := EntsAt.put HEe.out HOB.out _ _
    have hW0 : Below w.heap.size w (we.setCell ⟨w.heap.size, 8, none⟩ (.string to2)) := Below.setCell HWe.out (by exact Nat.le_refl _) _
    have hS0 : (we.setCell ⟨w.heap.size, 8, none⟩ (.string to2)).heap.size = we.heap.size := World.size_setCell _ _ _
    generalize (we.setCell ⟨w.heap.size, 8, none⟩ (.string to2)) = s0 at hB0 hL0 hR0 hE0 hW0 hS0 ⊢
    have hB1 : (s0.setCell ⟨w.heap.size, 7, none⟩ (.string tr)).heap[w.heap.size]? = some (.cells #[.int .i64 s.role, .int .i64 s.step, .int .i64 s.sent, .int .i64 s.got, .int .i64 s.prev, .int .i64 s.skip, .int .i64 s.cap, .string tr, .string to2, .string ti, .int .i64 s.secret, .int .i64 s.peer, .slice aK nK cK] 63) := heap_setCell_same _ _ _ _ _ _ hB0
    have hL1 := (heap_setCell_other s0 ⟨w.heap.size, 7, none⟩ (w.heap.size + 1) (.string tr) (by show w.heap.size + 1 ≠ w.heap.size; omega)).trans hL0
    have hR1 := (heap_setCell_other s0 ⟨w.heap.size, 7, none⟩ (w.heap.size + 1 + 1) (.string tr) (by show w.heap.size + 1 + 1 ≠ w.heap.size; omega)).trans hR0
    have hE1 : EntsAt (s0.setCell ⟨w.heap.size, 7, none⟩ (.string tr)) (.slice aK nK cK) al := EntsAt.put hE0 HOB.out _ _
    have hW1 : Below w.heap.size w (s0.setCell ⟨w.heap.size, 7, none⟩ (.string tr)) := Below.setCell hW0 (by exact Nat.le_refl _) _
    have hS1 : (s0.setCell ⟨w.heap.size, 7, none⟩ (.string tr)).heap.size = s0.heap.size := World.size_setCell _ _ _
    generalize (s0.setCell ⟨w.heap.size, 7, none⟩ (.string tr)) = s1 at hB1 hL1 hR1 hE1 hW1 hS1 ⊢
    have hB2 : (s1.setCell ⟨w.heap.size, 10, none⟩ (.int .i64 draw)).heap[w.heap.size]? = some (.cells #[.int .i64 s.role, .int .i64 s.step, .int .i64 s.sent, .int .i64 s.got, .int .i64 s.prev, .int .i64 s.skip, .int .i64 s.cap, .string tr, .string to2, .string ti, .int .i64 draw, .int .i64 s.peer, .slice aK nK cK] 63) := heap_setCell_same _ _ _ _ _ _ hB1
    have hL2 := (heap_setCell_other s1 ⟨w.heap.size, 10, none⟩ (w.heap.size + 1) (.int .i64 draw) (by show w.heap.size + 1 ≠ w.heap.size; omega)).trans hL1
    have hR2 := (heap_setCell_other s1 ⟨w.heap.size, 10, none⟩ (w.heap.size + 1 + 1) (.int .i64 draw) (by show w.heap.size + 1 + 1 ≠ w.heap.size; omega)).trans hR1
    have hE2 : EntsAt (s1.setCell ⟨w.heap.size, 10, none⟩ (.int .i64 draw)) (.slice aK nK cK) al := EntsAt.put hE1 HOB.out _ _
    have hW2 : Below w.heap.size w (s1.setCell ⟨w.heap.size, 10, none⟩ (.int .i64 draw)) := Below.setCell hW1 (by exact Nat.le_refl _) _
    have hS2 : (s1.setCell ⟨w.heap.size, 10, none⟩ (.int .i64 draw)).heap.size = s1.heap.size := World.size_setCell _ _ _
    generalize (s1.setCell ⟨w.heap.size, 10, none⟩ (.int .i64 draw)) = s2 at hB2 hL2 hR2 hE2 hW2 hS2 ⊢
    have hB3 : (s2.setCell ⟨w.heap.size, 11, none⟩ (.int .i64 l.pub)).heap[w.heap.size]? = some (.cells #[.int .i64 s.role, .int .i64 s.step, .int .i64 s.sent, .int .i64 s.got, .int .i64 s.prev, .int .i64 s.skip, .int .i64 s.cap, .string tr, .string to2, .string ti, .int .i64 draw, .int .i64 l.pub, .slice aK nK cK] 63) := heap_setCell_same _ _ _ _ _ _ hB2
    have hL3 := (heap_setCell_other s2 ⟨w.heap.size, 11, none⟩ (w.heap.size + 1) (.int .i64 l.pub) (by show w.heap.size + 1 ≠ w.heap.size; omega)).trans hL2
    have hR3 := (heap_setCell_other s2 ⟨w.heap.size, 11, none⟩ (w.heap.size + 1 + 1) (.int .i64 l.pub) (by show w.heap.size + 1 + 1 ≠ w.heap.size; omega)).trans hR2
    have hE3 : EntsAt (s2.setCell ⟨w.heap.size, 11, none⟩ (.int .i64 l.pub)) (.slice aK nK cK) al := EntsAt.put hE2 HOB.out _ _
    have hW3 : Below w.heap.size w (s2.setCell ⟨w.heap.size, 11, none⟩ (.int .i64 l.pub)) := Below.setCell hW2 (by exact Nat.le_refl _) _
    have hS3 : (s2.setCell ⟨w.heap.size, 11, none⟩ (.int .i64 l.pub)).heap.size = s2.heap.size := World.size_setCell _ _ _
    generalize (s2.setCell ⟨w.heap.size, 11, none⟩ (.int .i64 l.pub)) = s3 at hB3 hL3 hR3 hE3 hW3 hS3 ⊢
    have hB4 : (s3.setCell ⟨w.heap.size, 1, none⟩ (.int .i64 ((l.step : Int) + 1))).heap[w.heap.size]? = some (.cells #[.int .i64 s.role, .int .i64 ((l.step : Int) + 1), .int .i64 s.sent, .int .i64 s.got, .int .i64 s.prev, .int .i64 s.skip, .int .i64 s.cap, .string tr, .string to2, .string ti, .int .i64 draw, .int .i64 l.pub, .slice aK nK cK] 63) := heap_setCell_same _ _ _ _ _ _ hB3
    have hL4 : (s3.setCell ⟨w.heap.size, 1, none⟩ (.int .i64 ((l.step : Int) + 1))).heap[w.heap.size + 1]? = some (.cells #[.int .i64 l.step, .int .i64 l.count, .int .i64 l.prev, .int .i64 l.pub, .string (str l.head), .string (str l.body)] 145) := (heap_setCell_other _ _ _ _ (by show w.heap.size + 1 ≠ w.heap.size; omega)).trans hL3
    have hR4 : (s3.setCell ⟨w.heap.size, 1, none⟩ (.int .i64 ((l.step : Int) + 1))).heap[w.heap.size + 1 + 1]? = some (.cells #[.int .i64 0, .int .i64 0, .int .i64 0, .int .i64 0, .int .i64 0, .int .i64 0, .int .i64 0, .string ⟨#[]⟩, .string ⟨#[]⟩, .string ⟨#[]⟩, .int .i64 0, .int .i64 0, .slice none 0 0] 63) := (heap_setCell_other _ _ _ _ (by show w.heap.size + 1 + 1 ≠ w.heap.size; omega)).trans hR3
    have hE4 : EntsAt (s3.setCell ⟨w.heap.size, 1, none⟩ (.int .i64 ((l.step : Int) + 1))) (.slice aK nK cK) al := EntsAt.put hE3 HOB.out _ _
    have hW4 : Below w.heap.size w (s3.setCell ⟨w.heap.size, 1, none⟩ (.int .i64 ((l.step : Int) + 1))) := Below.setCell hW3 (by exact Nat.le_refl _) _
    have hS4 : (s3.setCell ⟨w.heap.size, 1, none⟩ (.int .i64 ((l.step : Int) + 1))).heap.size = s3.heap.size := World.size_setCell _ _ _
    generalize (s3.setCell ⟨w.heap.size, 1, none⟩ (.int .i64 ((l.step : Int) + 1))) = s4 at hB4 hL4 hR4 hE4 hW4 hS4 ⊢
    have hB5 : (s4.setCell ⟨w.heap.size, 4, none⟩ (.int .i64 s.sent)).heap[w.heap.size]? = some (.cells #[.int .i64 s.role, .int .i64 ((l.step : Int) + 1), .int .i64 s.sent, .int .i64 s.got, .int .i64 s.sent, .int .i64 s.skip, .int .i64 s.cap, .string tr, .string to2, .string ti, .int .i64 draw, .int .i64 l.pub, .slice aK nK cK] 63) := heap_setCell_same _ _ _ _ _ _ hB4
    have hL5 := (heap_setCell_other s4 ⟨w.heap.size, 4, none⟩ (w.heap.size + 1) (.int .i64 s.sent) (by show w.heap.size + 1 ≠ w.heap.size; omega)).trans hL4
    have hR5 := (heap_setCell_other s4 ⟨w.heap.size, 4, none⟩ (w.heap.size + 1 + 1) (.int .i64 s.sent) (by show w.heap.size + 1 + 1 ≠ w.heap.size; omega)).trans hR4
    have hE5 : EntsAt (s4.setCell ⟨w.heap.size, 4, none⟩ (.int .i64 s.sent)) (.slice aK nK cK) al := EntsAt.put hE4 HOB.out _ _
    have hW5 : Below w.heap.size w (s4.setCell ⟨w.heap.size, 4, none⟩ (.int .i64 s.sent)) := Below.setCell hW4 (by exact Nat.le_refl _) _
    have hS5 : (s4.setCell ⟨w.heap.size, 4, none⟩ (.int .i64 s.sent)).heap.size = s4.heap.size := World.size_setCell _ _ _
    generalize (s4.setCell ⟨w.heap.size, 4, none⟩ (.int .i64 s.sent)) = s5 at hB5 hL5 hR5 hE5 hW5 hS5 ⊢
    have hB6 : (s5.setCell ⟨w.heap.size, 2, none⟩ (.int .i64 0)).heap[w.heap.size]? = some (.cells #[.int .i64 s.role, .int .i64 ((l.step : Int) + 1), .int .i64 0, .int .i64 s.got, .int .i64 s.sent, .int .i64 s.skip, .int .i64 s.cap, .string tr, .string to2, .string ti, .int .i64 draw, .int .i64 l.pub, .slice aK nK cK] 63) := heap_setCell_same _ _ _ _ _ _ hB5
    have hL6 := (heap_setCell_other s5 ⟨w.heap.size, 2, none⟩ (w.heap.size + 1) (.int .i64 0) (by show w.heap.size + 1 ≠ w.heap.size; omega)).trans hL5
    have hR6 := (heap_setCell_other s5 ⟨w.heap.size, 2, none⟩ (w.heap.size + 1 + 1) (.int .i64 0) (by show w.heap.size + 1 + 1 ≠ w.heap.size; omega)).trans hR5
    have hE6 : EntsAt (s5.setCell ⟨w.heap.size, 2, none⟩ (.int .i64 0)) (.slice aK nK cK) al := EntsAt.put hE5 HOB.out _ _
    have hW6 : Below w.heap.size w (s5.setCell ⟨w.heap.size, 2, none⟩ (.int .i64 0)) := Below.setCell hW5 (by exact Nat.le_refl _) _
    have hS6 : (s5.setCell ⟨w.heap.size, 2, none⟩ (.int .i64 0)).heap.size = s5.heap.size := World.size_setCell _ _ _
    generalize (s5.setCell ⟨w.heap.size, 2, none⟩ (.int .i64 0)) = s6 at hB6 hL6 hR6 hE6 hW6 hS6 ⊢
    have hB7 : (s6.setCell ⟨w.heap.size, 3, none⟩ (.int .i64 0)).heap[w.heap.size]? = some (.cells #[.int .i64 s.role, .int .i64 ((l.step : Int) + 1), .int .i64 0, .int .i64 0, .int .i64 s.sent, .int .i64 s.skip, .int .i64 s.cap, .string tr, .string to2, .string ti, .int .i64 draw, .int .i64 l.pub, .slice aK nK cK] 63) := heap_setCell_same _ _ _ _ _ _ hB6
    have hL7 := (heap_setCell_other s6 ⟨w.heap.size, 3, none⟩ (w.heap.size + 1) (.int .i64 0) (by show w.heap.size + 1 ≠ w.heap.size; omega)).trans hL6
    have hR7 := (heap_setCell_other s6 ⟨w.heap.size, 3, none⟩ (w.heap.size + 1 + 1) (.int .i64 0) (by show w.heap.size + 1 + 1 ≠ w.heap.size; omega)).trans hR6
    have hE7 : EntsAt (s6.setCell ⟨w.heap.size, 3, none⟩ (.int .i64 0)) (.slice aK nK cK) al := EntsAt.put hE6 HOB.out _ _
    have hW7 : Below w.heap.size w (s6.setCell ⟨w.heap.size, 3, none⟩ (.int .i64 0)) := Below.setCell hW6 (by exact Nat.le_refl _) _
    have hS7 : (s6.setCell ⟨w.heap.size, 3, none⟩ (.int .i64 0)).heap.size = s6.heap.size := World.size_setCell _ _ _
    generalize (s6.setCell ⟨w.heap.size, 3, none⟩ (.int .i64 0)) = wt at hB7 hL7 hR7 hE7 hW7 hS7 ⊢
    have hszt : w.heap.size + 1 + 1 + 1 ≤ wt.heap.size := by omega
    have HRt := hid hR7; have HWt := hid hW7; have cd := cdue wt aK nK cK hE7; obtain ⟨k0, k1, k2, k3, k4, k5, k6, k7, k8, k9, k10, k11, k12⟩ := cells13 hB7; obtain ⟨q0, q1, q2, q3, q4, q5⟩ := cells6 hL7; clear hB0 hL0 hR0 hE0 hW0 hS0 hB1 hL1 hR1 hE1 hW1 hS1 hB2 hL2 hR2 hE2 hW2 hS2 hB3 hL3 hR3 hE3 hW3 hS3 hB4 hL4 hR4 hE4 hW4 hS4 hB5 hL5 hR5 hE5 hW5 hS5 hB6 hL6 hR6 hE6 hW6 hS6 hB7 hL7 hR7 hE7 hW7 hS7 HBe HLe HRe HEe HWe cdue HOB
    obtain ⟨er, her⟩ : ∃ er, er = (refDueR t l.count).1 := ⟨_, rfl⟩
    have HER : Hid (er = (refDueR t l.count).1) := her
    have cq : Calls Tryz.prog 142 #[.agg #[.int .i64 s.role, .int .i64 ((l.step : Int) + 1), .int .i64 0, .int .i64 0, .int .i64 s.sent, .int .i64 s.skip, .int .i64 s.cap, .string tr, .string to2, .string ti, .int .i64 draw, .int .i64 l.pub, .slice aK nK cK], .agg #[.int .i64 l.step, .int .i64 l.count, .int .i64 l.prev, .int .i64 l.pub, .string (str l.head), .string (str l.body)]] wt fun e w' => (∃ (ky : ByteArray) (x : StM) (aL : Option Addr) (nL cL : Nat), e = .returned (.tuple #[.string ky, .agg #[.int .i64 x.role, .int .i64 x.step, .int .i64 x.sent, .int .i64 x.got, .int .i64 x.prev, .int .i64 x.skip, .int .i64 x.cap, .string (str x.root), .string (str x.out), .string (str x.inn), .int .i64 x.secret, .int .i64 x.peer, .slice aL nL cL], .int .i64 er]) ∧ TQ (refDueR t l.count) wt.heap.size w' ky x aL nL cL) ∧ Below wt.heap.size wt w' := by
      rw [her]; exact cd
    clear her; clear cd
    go_upto_region 19 with (first | (go_at_call 142; (with_reducible refine cq.mono ?_); rintro e w5 ⟨⟨ky, x, aL, nL, cL, rfl, hq5⟩, hb5⟩))
    have hsz5 := hb5.size
    obtain ⟨ob, eob⟩ : ∃ ob, ob = Obj.cells #[.int .i64 x.role, .int .i64 x.step, .int .i64 x.sent, .int .i64 x.got, .int .i64 x.prev, .int .i64 x.skip, .int .i64 x.cap, .string (str x.root), .string (str x.out), .string (str x.inn), .int .i64 x.secret, .int .i64 x.peer, .slice aL nL cL] 63 := ⟨_, rfl⟩
    rw [← eob]; have hX5 := heap_alloc_new w5 ob
    have hR5 : (w5.alloc ob).heap[w.heap.size + 1 + 1]? = some (.cells #[.int .i64 0, .int .i64 0, .int .i64 0, .int .i64 0, .int .i64 0, .int .i64 0, .int .i64 0, .string ⟨#[]⟩, .string ⟨#[]⟩, .string ⟨#[]⟩, .int .i64 0, .int .i64 0, .slice none 0 0] 63) := (Below.heap_alloc _ _ _ (by omega)).trans ((hb5.block (w.heap.size + 1 + 1) (by omega)).trans HRt.out)
    have hW5 : Below w.heap.size w (w5.alloc ob) := (below_tr HWt.out hb5).alloc (by omega) _
    have hQ5 : TQ (refDueR t l.count) wt.heap.size (w5.alloc ob) ky x aL nL cL := hq5.alloc _
    generalize (w5.alloc ob) = wz at hX5 hR5 hW5 hQ5 ⊢
    subst eob
    generalize w5.heap.size = B5 at hX5 ⊢
    have HZ := hid hW5; have HQZ : Hid (TQ (refDueR t l.count) wt.heap.size wz ky x aL nL cL) := hQ5; clear hW5 hQ5 hq5 hb5 hsz5 cq k0 k1 k2 k3 k4 k5 k6 k7 k8 k9 k10 k11 k12 q0 q1 q2 q3 q4 q5; obtain ⟨u0, u1, u2, u3, u4, u5, u6, u7, u8, u9, u10, u11, u12⟩ := cells13 hX5; obtain ⟨a0, a1, a2, a3, a4, a5, a6, a7, a8, a9, a10, a11, a12⟩ := cells13 hR5
    have fA : ∀ j, wz.frozen? ⟨w.heap.size + 1 + 1, j, none⟩ = false := fun j => frozen_of_row wz _ j _ _ hR5
    clear hX5 hR5
    go_region
    all_goals go_wp2
    all_goals (try simp only [Exit.inBlock, Exit.then])
    all_goals (refine bodyPost_ret (v := .tuple #[.string ky, .agg #[.int .i64 x.role, .int .i64 x.step, .int .i64 x.sent, .int .i64 x.got, .int .i64 x.prev, .int .i64 x.skip, .int .i64 x.cap, .string (str x.root), .string (str x.out), .string (str x.inn), .int .i64 x.secret, .int .i64 x.peer, .slice aL nL cL], .int .i64 er]) ?_ ?_ ?_)
    all_goals first
      | rfl
      | (rw [results_tct (fn := Tryz.f141) rfl]; simp [go_sem, a0, a1, a2, a3, a4, a5, a6, a7, a8, a9, a10, a11, a12])
      | (refine ⟨⟨ky, x, aL, nL, cL, by rw [HQ.out, HER.out]; rfl, ?_⟩, ?_⟩
         · rw [HQ.out]
           refine TQ.base (base := wt.heap.size) ?_ (by omega)
           repeat (first | (with_reducible refine TQ.put ?_ (by show w.heap.size + 1 + 1 < wt.heap.size; omega) _ _) | (with_reducible refine TQ.drew ?_))
           exact HQZ.out
         · repeat (first | (with_reducible refine Below.setCell ?_ (by show w.heap.size ≤ w.heap.size + 1 + 1; omega) _) | (with_reducible refine Below.drew ?_))
           exact HZ.out)
theorem refTurning_three (s : StM) (aa : Option Addr) (nn cc : Nat) (l : LetM) (draw : Nat) (w : World) (hls : l.step = s.step + 1) (h255 : s.step ≤ 250) (hc : l.count ≤ 254) (hpv : l.prev ≤ 150) (hg : s.got ≤ 255) (hl : s.kept.length ≤ 100) (hin : s.inn.length = 8) (hroot : s.root.length = 8) (hcap : s.cap ≤ 255) (hs : s.secret < 2147483647) (hp : l.pub < 2147483647) (hd : draw < 2147483647) (hv : EntsAt w (.slice aa nn cc) s.kept) (h2 : 2 ≤ s.step) (hbad : ¬ skipBad s l.prev) (h1 : ¬ s.skip < ofL s.kept (s.step - 1) + (l.prev - s.got)) :
    Calls Tryz.prog 141 #[.agg #[.int .i64 s.role, .int .i64 s.step, .int .i64 s.sent, .int .i64 s.got, .int .i64 s.prev, .int .i64 s.skip, .int .i64 s.cap, .string (str s.root), .string (str s.out), .string (str s.inn), .int .i64 s.secret, .int .i64 s.peer, .slice aa nn cc], .agg #[.int .i64 l.step, .int .i64 l.count, .int .i64 l.prev, .int .i64 l.pub, .string (str l.head), .string (str l.body)], .int .i64 draw] w fun e w' => TakeRef (refTurnR s l draw) w.heap.size w' e ∧ Below w.heap.size w w' := by
  have hI : (2 : Int) ≤ (s.step : Int) := by omega
  obtain ⟨st1, hst1⟩ : ∃ st1, st1 = s.step - 1 := ⟨_, rfl⟩
  have hst : (s.step : Int) - 1 = (st1 : Int) := by omega
  have cs := fun w => span_any s.inn st1 s.got l.prev w hin (by omega) (by omega)
  have hsl := spanL_length s.inn st1 s.got (l.prev - s.got)
  have hN : ofL (s.kept ++ spanL s.inn st1 s.got (l.prev - s.got)) st1 = ofL s.kept (s.step - 1) + (l.prev - s.got) := by rw [ofL_append, ofL_span, if_pos rfl, hst1]
  have hkp : (passS s l.prev).kept = s.kept ++ spanL s.inn st1 s.got (l.prev - s.got) := by
    show s.kept ++ spanL s.inn (s.step - 1) s.got (l.prev - s.got) = _
    rw [hst1]
  generalize spanL s.inn st1 s.got (l.prev - s.got) = sp at *
  rw [← hsl] at cs
  have cj := fun va w ha hb => joined_any s.kept sp (.slice aa nn cc) va w ha hb (by omega) (by omega)
  have hal : (s.kept ++ sp).length ≤ 500 := by rw [List.length_append]; omega
  obtain ⟨al, hAl⟩ : ∃ al, al = s.kept ++ sp := ⟨_, rfl⟩
  rw [← hAl] at cj hal hN
  have co := fun v w h => of_any al v st1 w h (by omega)
  generalize ofL al st1 = N at *
  rw [← hAl] at hkp
  have hkl := hal; have hpc : (passS s l.prev).cap ≤ 255 := hcap
  have hlb : l.step ≤ 251 := by omega
  have cr1 := fun w => raised_any s.secret l.pub s.secret w (Nat.le_refl _) hp hs
  have cr2 := fun w => raised_any draw l.pub draw w (Nat.le_refl _) hp hd
  have hx1 := pwN_lt l.pub s.secret; have hx2 := pwN_lt l.pub draw
  have cc1 := fun w => chains_any (str s.root) (pwN l.pub s.secret) w (by rw [str_size]; exact hroot) (by omega)
  have cc2 := fun w => chains_any (str (rootL s.root (pwN l.pub s.secret))) (pwN l.pub draw) w (by rw [str_size]; exact mixed_length _ _) (by omega)
  rw [str_toList] at cc1 cc2
  obtain ⟨t, ht⟩ : ∃ t, t = turnS (passS s l.prev) l.step l.pub draw := ⟨_, rfl⟩
  have htk : t.kept = al := by rw [ht]; exact hkp
  have cdue : ∀ (w : World) (va : Option Addr) (vn vc : Nat), EntsAt w (.slice va vn vc) al → Calls Tryz.prog 142 #[.agg (stCells t (.slice va vn vc)), .agg #[.int .i64 l.step, .int .i64 l.count, .int .i64 l.prev, .int .i64 l.pub, .string (str l.head), .string (str l.body)]] w fun e w' => TakeRef (refDueR t l.count) w.heap.size w' e ∧ Below w.heap.size w w' := fun w va vn vc hE =>
    refDue_any t va vn vc l w (by rw [ht]; rfl) (by rw [ht]; show l.step + 1 ≤ 255; omega) (by rw [ht]; exact Nat.zero_le _) hc (by rw [htk]; exact hkl) (by rw [ht]; exact mixed_length _ _) (by rw [ht]; exact hpc) (by rw [htk]; exact hE)
  have htc : ∀ v, stCells t v = #[.int .i64 s.role, .int .i64 ((l.step : Int) + 1), .int .i64 0, .int .i64 0, .int .i64 s.sent, .int .i64 s.skip, .int .i64 s.cap, .string (str (rootL (rootL s.root (pwN l.pub s.secret)) (pwN l.pub draw))), .string (str (chainL (rootL s.root (pwN l.pub s.secret)) (pwN l.pub draw))), .string (str (chainL s.root (pwN l.pub s.secret))), .int .i64 draw, .int .i64 l.pub, v] := fun v => by
    rw [ht]
    simp only [stCells, turnS, Int.natCast_add]
    rfl
  simp only [htc] at cdue
  generalize str (chainL s.root (pwN l.pub s.secret)) = ti at *
  generalize str (chainL (rootL s.root (pwN l.pub s.secret)) (pwN l.pub draw)) = to2 at *
  generalize str (rootL (rootL s.root (pwN l.pub s.secret)) (pwN l.pub draw)) = tr at *
  generalize rootL s.root (pwN l.pub s.secret) = rt at *
  generalize pwN l.pub s.secret = d1 at *
  generalize pwN l.pub draw = d2 at *
  have HQ : Hid (refTurnR s l draw = refDueR t l.count) := by
    show _ = _
    rw [refTurnR, if_neg (fun q => hbad q.2), endS, if_pos h2, ht]
  have i1 : ¬ (s.skip : Int) < (N : Int) := by omega
  clear h1; clear ht htk htc hkp hkl hpc h2 hls hroot hs hp hd hx1 hx2 hN hst1 hsl hAl hbad
  go_enter Tryz.func141, Tryz.ntmps141
  go_upto_region 1 with fail
  obtain ⟨wb, ewb, hB, hL, hR, hW, hlt⟩ := alloc3e w (.cells #[.int .i64 s.role, .int .i64 s.step, .int .i64 s.sent, .int .i64 s.got, .int .i64 s.prev, .int .i64 s.skip, .int .i64 s.cap, .string (str s.root), .string (str s.out), .string (str s.inn), .int .i64 s.secret, .int .i64 s.peer, .slice aa nn cc] 63) (.cells #[.int .i64 l.step, .int .i64 l.count, .int .i64 l.prev, .int .i64 l.pub, .string (str l.head), .string (str l.body)] 145) (.cells #[.int .i64 0, .int .i64 0, .int .i64 0, .int .i64 0, .int .i64 0, .int .i64 0, .int .i64 0, .string ⟨#[]⟩, .string ⟨#[]⟩, .string ⟨#[]⟩, .int .i64 0, .int .i64 0, .slice none 0 0] 63); rw [← ewb]; clear ewb; have HB := hid hB; have HL := hid hL; have HR := hid hR; have HW := hid hW; have HV : Hid (EntsAt wb (.slice aa nn cc) s.kept) := hv.next hW; have k1 : wb.cell? ⟨w.heap.size, 1, none⟩ = some (.int .i64 s.step) := cell_of_row wb _ 1 _ _ _ hB; have k3 : wb.cell? ⟨w.heap.size, 3, none⟩ = some (.int .i64 s.got) := cell_of_row wb _ 3 _ _ _ hB; have k9 : wb.cell? ⟨w.heap.size, 9, none⟩ = some (.string (str s.inn)) := cell_of_row wb _ 9 _ _ _ hB; have k12 : wb.cell? ⟨w.heap.size, 12, none⟩ = some (.slice aa nn cc) := cell_of_row wb _ 12 _ _ _ hB; have q2 : wb.cell? ⟨w.heap.size + 1, 2, none⟩ = some (.int .i64 l.prev) := cell_of_row wb _ 2 _ _ _ hL; clear hB hL hR hW hv
  go_upto_region 3 with (first | (go_at_call 157; (with_reducible refine (cs _).mono ?_); rintro e w1 ⟨⟨v1, rfl, hown1⟩, hb1⟩; obtain ⟨a1', c1', hv1⟩ := (EntsAt.of_own hown1).form; subst hv1))
  have hsz1 := hb1.size
  have hB1 := (hb1.block w.heap.size (by omega)).trans HB.out
  have HL1 := hid ((hb1.block (w.heap.size + 1) (by omega)).trans HL.out)
  have HR1 := hid ((hb1.block (w.heap.size + 1 + 1) (by omega)).trans HR.out)
  have HV1 : Hid (EntsAt w1 (.slice aa nn cc) s.kept) := HV.out.next hb1; have HM1 : Hid (EntsAt w1 (.slice a1' sp.length c1') sp) := EntsAt.of_own hown1; have HW1 : Hid (Below w.heap.size w w1) := below_tr HW.out hb1; have HB1 := hid hB1; clear k1 k3 k9 k12 q2; have k12 : w1.cell? ⟨w.heap.size, 12, none⟩ = some (.slice aa nn cc) := cell_of_row w1 _ 12 _ _ _ hB1; clear hB1 hb1 hown1 HB HL HR HW HV cs
  go_upto_region 4 with (first | (go_at_call 158; (with_reducible refine (cj _ _ HV1.out HM1.out).mono ?_); rintro e w2 ⟨⟨v2, rfl, hown2⟩, hb2⟩; obtain ⟨aK, nK, cK, hv2⟩ := ownsK_form hown2; subst hv2; have hsz2 := hb2.size; have hB2 := (hb2.block w.heap.size (by omega)).trans HB1.out; have y12 : w2.cell? ⟨w.heap.size, 12, none⟩ = some (.slice aa nn cc) := cell_of_row w2 _ 12 _ _ _ hB2; have fB : ∀ j, w2.frozen? ⟨w.heap.size, j, none⟩ = false := fun j => frozen_of_row w2 _ j _ _ hB2; have HB2 := hid hB2; have HO2 : Hid (w2.ownsRow wb.heap.size 119 3 (.slice aK nK cK) al.length (entsCells al)) := ownsRow_base hown2 hsz1; clear hB2 hown2))
  have hBn : (w2.setCell ⟨w.heap.size, 12, none⟩ (.slice aK nK cK)).heap[w.heap.size]? = some (.cells #[.int .i64 s.role, .int .i64 s.step, .int .i64 s.sent, .int .i64 s.got, .int .i64 s.prev, .int .i64 s.skip, .int .i64 s.cap, .string (str s.root), .string (str s.out), .string (str s.inn), .int .i64 s.secret, .int .i64 s.peer, .slice aK nK cK] 63) := heap_setCell_same _ _ _ _ _ _ HB2.out
  have hLn : (w2.setCell ⟨w.heap.size, 12, none⟩ (.slice aK nK cK)).heap[w.heap.size + 1]? = some (.cells #[.int .i64 l.step, .int .i64 l.count, .int .i64 l.prev, .int .i64 l.pub, .string (str l.head), .string (str l.body)] 145) := (heap_setCell_other _ _ _ _ (by show w.heap.size + 1 ≠ w.heap.size; omega)).trans ((hb2.block (w.heap.size + 1) (by omega)).trans HL1.out)
  have hRn : (w2.setCell ⟨w.heap.size, 12, none⟩ (.slice aK nK cK)).heap[w.heap.size + 1 + 1]? = some (.cells #[.int .i64 0, .int .i64 0, .int .i64 0, .int .i64 0, .int .i64 0, .int .i64 0, .int .i64 0, .string ⟨#[]⟩, .string ⟨#[]⟩, .string ⟨#[]⟩, .int .i64 0, .int .i64 0, .slice none 0 0] 63) := (heap_setCell_other _ _ _ _ (by show w.heap.size + 1 + 1 ≠ w.heap.size; omega)).trans ((hb2.block (w.heap.size + 1 + 1) (by omega)).trans HR1.out)
  have hOn : (w2.setCell ⟨w.heap.size, 12, none⟩ (.slice aK nK cK)).ownsRow wb.heap.size 119 3 (.slice aK nK cK) al.length (entsCells al) := ownsRow_setCell_below HO2.out (by show w.heap.size < _; omega) _
  have hWn : Below w.heap.size w (w2.setCell ⟨w.heap.size, 12, none⟩ (.slice aK nK cK)) := (below_tr HW1.out hb2).setCell (by exact Nat.le_refl _) _
  have hSn : (w2.setCell ⟨w.heap.size, 12, none⟩ (.slice aK nK cK)).heap.size = w2.heap.size := World.size_setCell _ _ _; clear y12 fB
  generalize (w2.setCell ⟨w.heap.size, 12, none⟩ (.slice aK nK cK)) = wx at hBn hLn hRn hOn hWn hSn ⊢
  have hszx0 : wb.heap.size ≤ wx.heap.size := by omega
  have k1 : wx.cell? ⟨w.heap.size, 1, none⟩ = some (.int .i64 s.step) := cell_of_row wx _ 1 _ _ _ hBn; have k5 : wx.cell? ⟨w.heap.size, 5, none⟩ = some (.int .i64 s.skip) := cell_of_row wx _ 5 _ _ _ hBn; have z12 : wx.cell? ⟨w.heap.size, 12, none⟩ = some (.slice aK nK cK) := cell_of_row wx _ 12 _ _ _ hBn; have HBx := hid hBn; have HLx := hid hLn; have HRx := hid hRn; have HEx : Hid (EntsAt wx (.slice aK nK cK) al) := EntsAt.of_own hOn
  have HOB : Hid (Off (fun g => g = w.heap.size) (.slice aK nK cK)) := Off.own hOn (fun g hg => by omega)
  have HWx := hid hWn; clear hBn hLn hRn hOn hWn hSn HB1 HL1 HR1 HV1 HM1 HW1 HB2 HO2 hb2 k12 cj hsz1 hsz2
  go_upto_region 7 with (first | (go_at_call 159; go_must (with_reducible refine (co _ _ HEx.out).mono ?_); rintro e w' ⟨rfl, hw⟩; rw [hw]; clear hw w'))
  clear k1 k5 z12 co
  have hszx : w.heap.size + 1 + 1 + 1 ≤ wx.heap.size := by omega
  have k7 : wx.cell? ⟨w.heap.size, 7, none⟩ = some (.string (str s.root)) := cell_of_row wx _ 7 _ _ _ HBx.out; have k10 : wx.cell? ⟨w.heap.size, 10, none⟩ = some (.int .i64 s.secret) := cell_of_row wx _ 10 _ _ _ HBx.out; have q3 : wx.cell? ⟨w.heap.size + 1, 3, none⟩ = some (.int .i64 l.pub) := cell_of_row wx _ 3 _ _ _ HLx.out
  go_cut [11, 12] (fun x y wy => x = .string ti ∧ y = .string (str rt) ∧ Below wx.heap.size wx wy)
  case first =>
    go_region_held3 (fun w' => w'.cell? ⟨w.heap.size, 7, none⟩ = some (.string (str s.root)) ∧ w'.cell? ⟨w.heap.size + 1, 3, none⟩ = some (.int .i64 l.pub) ∧ w'.cell? ⟨w.heap.size, 10, none⟩ = some (.int .i64 s.secret)) (first | (simp [k7, q3, k10]; done) | (simp [g7, gq3, g10]; done)) (first | (go_at_call 89; go_must (with_reducible refine (cr1 _).mono ?_); rintro e w' ⟨rfl, hw⟩; rw [hw]; clear hw w') | (go_at_call 97; go_must (with_reducible refine (cc1 _).mono ?_); rintro e w1 ⟨rfl, hb1⟩; have hb1' : Below wx.heap.size wx w1 := ⟨hb1.os, hb1.tape, hb1.output, hb1.size, hb1.block⟩; have hB9 := (hb1'.block w.heap.size (by omega)).trans HBx.out; have hL9 := (hb1'.block (w.heap.size + 1) (by omega)).trans HLx.out; have g7 : w1.cell? ⟨w.heap.size, 7, none⟩ = some (.string (str s.root)) := cell_of_row w1 _ 7 _ _ _ hB9; have g10 : w1.cell? ⟨w.heap.size, 10, none⟩ = some (.int .i64 s.secret) := cell_of_row w1 _ 10 _ _ _ hB9; have gq3 : w1.cell? ⟨w.heap.size + 1, 3, none⟩ = some (.int .i64 l.pub) := cell_of_row w1 _ 3 _ _ _ hL9; clear hB9 hL9))
    all_goals (go_wp2_with fail)
    all_goals go_meet
    all_goals exact ⟨rfl, rfl, ⟨hb1'.os, hb1'.tape, hb1'.output, hb1'.size, hb1'.block⟩⟩
  case rest =>
    obtain ⟨rfl, rfl, hbc⟩ := hcut; have hszc := hbc.size
    have hBc := (hbc.block w.heap.size (by omega)).trans HBx.out
    have hLc := (hbc.block (w.heap.size + 1) (by omega)).trans HLx.out
    have HRc := hid ((hbc.block (w.heap.size + 1 + 1) (by omega)).trans HRx.out)
    have HWc : Hid (Below w.heap.size w wc) := below_tr HWx.out hbc; have HEc : Hid (EntsAt wc (.slice aK nK cK) al) := HEx.out.next hbc; have k9 : wc.cell? ⟨w.heap.size, 9, none⟩ = some (.string (str s.inn)) := cell_of_row wc _ 9 _ _ _ hBc
    have fB : ∀ j, wc.frozen? ⟨w.heap.size, j, none⟩ = false := fun j => frozen_of_row wc _ j _ _ hBc
    have HBc := hid hBc; have HLc := hid hLc; clear hbc hBc hLc k7 k10 q3 HEx cr1 cc1
    go_upto_region 9 with fail
    clear k9 fB; have hBn : (wc.setCell ⟨w.heap.size, 9, none⟩ (.string ti)).heap[w.heap.size]? = some (.cells #[.int .i64 s.role, .int .i64 s.step, .int .i64 s.sent, .int .i64 s.got, .int .i64 s.prev, .int .i64 s.skip, .int .i64 s.cap, .string (str s.root), .string (str s.out), .string ti, .int .i64 s.secret, .int .i64 s.peer, .slice aK nK cK] 63) := heap_setCell_same _ _ _ _ _ _ HBc.out
    have hLn := (heap_setCell_other wc ⟨w.heap.size, 9, none⟩ (w.heap.size + 1) (.string ti) (by show w.heap.size + 1 ≠ w.heap.size; omega)).trans HLc.out
    have hRn := (heap_setCell_other wc ⟨w.heap.size, 9, none⟩ (w.heap.size + 1 + 1) (.string ti) (by show w.heap.size + 1 + 1 ≠ w.heap.size; omega)).trans HRc.out
    have hEn : EntsAt (wc.setCell ⟨w.heap.size, 9, none⟩ (.string ti)) (.slice aK nK cK) al := EntsAt.put HEc.out HOB.out _ _
    have hWn : Below w.heap.size w (wc.setCell ⟨w.heap.size, 9, none⟩ (.string ti)) := HWc.out.setCell (by exact Nat.le_refl _) _
    have hSn : (wc.setCell ⟨w.heap.size, 9, none⟩ (.string ti)).heap.size = wc.heap.size := World.size_setCell _ _ _
    generalize (wc.setCell ⟨w.heap.size, 9, none⟩ (.string ti)) = wd at hBn hLn hRn hEn hWn hSn ⊢
    have hszd : w.heap.size + 1 + 1 + 1 ≤ wd.heap.size := by omega
    have q3 : wd.cell? ⟨w.heap.size + 1, 3, none⟩ = some (.int .i64 l.pub) := cell_of_row wd _ 3 _ _ _ hLn; have HBd := hid hBn; have HLd := hid hLn; have HRd := hid hRn; have HEd := hid hEn; have HWd := hid hWn; clear hBn hLn hRn hEn hWn hSn HBc HLc HRc HEc HWc
    go_upto_region 10 with (first | (go_at_call 89; go_must (with_reducible refine (cr2 _).mono ?_); rintro e w' ⟨rfl, hw⟩; rw [hw]; clear hw w') | (go_at_call 97; (with_reducible refine (cc2 _).mono ?_); rintro e we ⟨rfl, hbe⟩))
    have hsze := hbe.size
    have hBe := (hbe.block w.heap.size (by omega)).trans HBd.out
    have hLe := (hbe.block (w.heap.size + 1) (by omega)).trans HLd.out
    have hRe : we.heap[w.heap.size + 1 + 1]? = some (.cells #[.int .i64 0, .int .i64 0, .int .i64 0, .int .i64 0, .int .i64 0, .int .i64 0, .int .i64 0, .string ⟨#[]⟩, .string ⟨#[]⟩, .string ⟨#[]⟩, .int .i64 0, .int .i64 0, .slice none 0 0] 63) := (hbe.block (w.heap.size + 1 + 1) (by omega)).trans HRd.out
    have hWe : Below w.heap.size w we := below_tr HWd.out hbe; have hEe : EntsAt we (.slice aK nK cK) al := HEd.out.next hbe; obtain ⟨k0, k1, k2, k3, k4, k5, k6, k7, k8, k9, k10, k11, k12⟩ := cells13 hBe; have q0 : we.cell? ⟨w.heap.size + 1, 0, none⟩ = some (.int .i64 l.step) := cell_of_row we _ 0 _ _ _ hLe; have r3 : we.cell? ⟨w.heap.size + 1, 3, none⟩ = some (.int .i64 l.pub) := cell_of_row we _ 3 _ _ _ hLe
    have fB : ∀ j, we.frozen? ⟨w.heap.size, j, none⟩ = false := fun j => frozen_of_row we _ j _ _ hBe
    have HBe := hid hBe; have HLe := hid hLe; have HRe := hid hRe; have HEe := hid hEe; have HWe := hid hWe; clear hBe hLe hRe hEe hWe hbe HBd HLd HRd HEd HWd q3 cr2 cc2
    go_upto_region 18 with fail
    clear k0 k1 k2 k3 k4 k5 k6 k7 k8 k9 k10 k11 k12 q0 r3 fB; have hB0 : (we.setCell ⟨w.heap.size, 8, none⟩ (.string to2)).heap[w.heap.size]? = some (.cells #[.int .i64 s.role, .int .i64 s.step, .int .i64 s.sent, .int .i64 s.got, .int .i64 s.prev, .int .i64 s.skip, .int .i64 s.cap, .string (str s.root), .string to2, .string ti, .int .i64 s.secret, .int .i64 s.peer, .slice aK nK cK] 63) := heap_setCell_same _ _ _ _ _ _ HBe.out
    have hL0 := (heap_setCell_other we ⟨w.heap.size, 8, none⟩ (w.heap.size + 1) (.string to2) (by show w.heap.size + 1 ≠ w.heap.size; omega)).trans HLe.out
    have hR0 := (heap_setCell_other we ⟨w.heap.size, 8, none⟩ (w.heap.size + 1 + 1) (.string to2) (by show w.heap.size + 1 + 1 ≠ w.heap.size; omega)).trans HRe.out
    have hE0 : EntsAt (we.setCell ⟨w.heap.size, 8, none⟩ (.string to2)) (.slice aK nK cK) al := EntsAt.put HEe.out HOB.out _ _
    have hW0 : Below w.heap.size w (we.setCell ⟨w.heap.size, 8, none⟩ (.string to2)) := Below.setCell HWe.out (by exact Nat.le_refl _) _
    have hS0 : (we.setCell ⟨w.heap.size, 8, none⟩ (.string to2)).heap.size = we.heap.size := World.size_setCell _ _ _
    generalize (we.setCell ⟨w.heap.size, 8, none⟩ (.string to2)) = s0 at hB0 hL0 hR0 hE0 hW0 hS0 ⊢
    have hB1 : (s0.setCell ⟨w.heap.size, 7, none⟩ (.string tr)).heap[w.heap.size]? = some (.cells #[.int .i64 s.role, .int .i64 s.step, .int .i64 s.sent, .int .i64 s.got, .int .i64 s.prev, .int .i64 s.skip, .int .i64 s.cap, .string tr, .string to2, .string ti, .int .i64 s.secret, .int .i64 s.peer, .slice aK nK cK] 63) := heap_setCell_same _ _ _ _ _ _ hB0
    have hL1 := (heap_setCell_other s0 ⟨w.heap.size, 7, none⟩ (w.heap.size + 1) (.string tr) (by show w.heap.size + 1 ≠ w.heap.size; omega)).trans hL0
    have hR1 := (heap_setCell_other s0 ⟨w.heap.size, 7, none⟩ (w.heap.size + 1 + 1) (.string tr) (by show w.heap.size + 1 + 1 ≠ w.heap.size; omega)).trans hR0
    have hE1 : EntsAt (s0.setCell ⟨w.heap.size, 7, none⟩ (.string tr)) (.slice aK nK cK) al := EntsAt.put hE0 HOB.out _ _
    have hW1 : Below w.heap.size w (s0.setCell ⟨w.heap.size, 7, none⟩ (.string tr)) := Below.setCell hW0 (by exact Nat.le_refl _) _
    have hS1 : (s0.setCell ⟨w.heap.size, 7, none⟩ (.string tr)).heap.size = s0.heap.size := World.size_setCell _ _ _
    generalize (s0.setCell ⟨w.heap.size, 7, none⟩ (.string tr)) = s1 at hB1 hL1 hR1 hE1 hW1 hS1 ⊢
    have hB2 : (s1.setCell ⟨w.heap.size, 10, none⟩ (.int .i64 draw)).heap[w.heap.size]? = some (.cells #[.int .i64 s.role, .int .i64 s.step, .int .i64 s.sent, .int .i64 s.got, .int .i64 s.prev, .int .i64 s.skip, .int .i64 s.cap, .string tr, .string to2, .string ti, .int .i64 draw, .int .i64 s.peer, .slice aK nK cK] 63) := heap_setCell_same _ _ _ _ _ _ hB1
    have hL2 := (heap_setCell_other s1 ⟨w.heap.size, 10, none⟩ (w.heap.size + 1) (.int .i64 draw) (by show w.heap.size + 1 ≠ w.heap.size; omega)).trans hL1
    have hR2 := (heap_setCell_other s1 ⟨w.heap.size, 10, none⟩ (w.heap.size + 1 + 1) (.int .i64 draw) (by show w.heap.size + 1 + 1 ≠ w.heap.size; omega)).trans hR1
    have hE2 : EntsAt (s1.setCell ⟨w.heap.size, 10, none⟩ (.int .i64 draw)) (.slice aK nK cK) al := EntsAt.put hE1 HOB.out _ _
    have hW2 : Below w.heap.size w (s1.setCell ⟨w.heap.size, 10, none⟩ (.int .i64 draw)) := Below.setCell hW1 (by exact Nat.le_refl _) _
    have hS2 : (s1.setCell ⟨w.heap.size, 10, none⟩ (.int .i64 draw)).heap.size = s1.heap.size := World.size_setCell _ _ _
    generalize (s1.setCell ⟨w.heap.size, 10, none⟩ (.int .i64 draw)) = s2 at hB2 hL2 hR2 hE2 hW2 hS2 ⊢
    have hB3 : (s2.setCell ⟨w.heap.size, 11, none⟩ (.int .i64 l.pub)).heap[w.heap.size]? = some (.cells #[.int .i64 s.role, .int .i64 s.step, .int .i64 s.sent, .int .i64 s.got, .int .i64 s.prev, .int .i64 s.skip, .int .i64 s.cap, .string tr, .string to2, .string ti, .int .i64 draw, .int .i64 l.pub, .slice aK nK cK] 63) := heap_setCell_same _ _ _ _ _ _ hB2
    have hL3 := (heap_setCell_other s2 ⟨w.heap.size, 11, none⟩ (w.heap.size + 1) (.int .i64 l.pub) (by show w.heap.size + 1 ≠ w.heap.size; omega)).trans hL2
    have hR3 := (heap_setCell_other s2 ⟨w.heap.size, 11, none⟩ (w.heap.size + 1 + 1) (.int .i64 l.pub) (by show w.heap.size + 1 + 1 ≠ w.heap.size; omega)).trans hR2
    have hE3 : EntsAt (s2.setCell ⟨w.heap.size, 11, none⟩ (.int .i64 l.pub)) (.slice aK nK cK) al := EntsAt.put hE2 HOB.out _ _
    have hW3 : Below w.heap.size w (s2.setCell ⟨w.heap.size, 11, none⟩ (.int .i64 l.pub)) := Below.setCell hW2 (by exact Nat.le_refl _) _
    have hS3 : (s2.setCell ⟨w.heap.size, 11, none⟩ (.int .i64 l.pub)).heap.size = s2.heap.size := World.size_setCell _ _ _
    generalize (s2.setCell ⟨w.heap.size, 11, none⟩ (.int .i64 l.pub)) = s3 at hB3 hL3 hR3 hE3 hW3 hS3 ⊢
    have hB4 : (s3.setCell ⟨w.heap.size, 1, none⟩ (.int .i64 ((l.step : Int) + 1))).heap[w.heap.size]? = some (.cells #[.int .i64 s.role, .int .i64 ((l.step : Int) + 1), .int .i64 s.sent, .int .i64 s.got, .int .i64 s.prev, .int .i64 s.skip, .int .i64 s.cap, .string tr, .string to2, .string ti, .int .i64 draw, .int .i64 l.pub, .slice aK nK cK] 63) := heap_setCell_same _ _ _ _ _ _ hB3
    have hL4 : (s3.setCell ⟨w.heap.size, 1, none⟩ (.int .i64 ((l.step : Int) + 1))).heap[w.heap.size + 1]? = some (.cells #[.int .i64 l.step, .int .i64 l.count, .int .i64 l.prev, .int .i64 l.pub, .string (str l.head), .string (str l.body)] 145) := (heap_setCell_other _ _ _ _ (by show w.heap.size + 1 ≠ w.heap.size; omega)).trans hL3
    have hR4 : (s3.setCell ⟨w.heap.size, 1, none⟩ (.int .i64 ((l.step : Int) + 1))).heap[w.heap.size + 1 + 1]? = some (.cells #[.int .i64 0, .int .i64 0, .int .i64 0, .int .i64 0, .int .i64 0, .int .i64 0, .int .i64 0, .string ⟨#[]⟩, .string ⟨#[]⟩, .string ⟨#[]⟩, .int .i64 0, .int .i64 0, .slice none 0 0] 63) := (heap_setCell_other _ _ _ _ (by show w.heap.size + 1 + 1 ≠ w.heap.size; omega)).trans hR3
    have hE4 : EntsAt (s3.setCell ⟨w.heap.size, 1, none⟩ (.int .i64 ((l.step : Int) + 1))) (.slice aK nK cK) al := EntsAt.put hE3 HOB.out _ _
    have hW4 : Below w.heap.size w (s3.setCell ⟨w.heap.size, 1, none⟩ (.int .i64 ((l.step : Int) + 1))) := Below.setCell hW3 (by exact Nat.le_refl _) _
    have hS4 : (s3.setCell ⟨w.heap.size, 1, none⟩ (.int .i64 ((l.step : Int) + 1))).heap.size = s3.heap.size := World.size_setCell _ _ _
    generalize (s3.setCell ⟨w.heap.size, 1, none⟩ (.int .i64 ((l.step : Int) + 1))) = s4 at hB4 hL4 hR4 hE4 hW4 hS4 ⊢
    have hB5 : (s4.setCell ⟨w.heap.size, 4, none⟩ (.int .i64 s.sent)).heap[w.heap.size]? = some (.cells #[.int .i64 s.role, .int .i64 ((l.step : Int) + 1), .int .i64 s.sent, .int .i64 s.got, .int .i64 s.sent, .int .i64 s.skip, .int .i64 s.cap, .string tr, .string to2, .string ti, .int .i64 draw, .int .i64 l.pub, .slice aK nK cK] 63) := heap_setCell_same _ _ _ _ _ _ hB4
    have hL5 := (heap_setCell_other s4 ⟨w.heap.size, 4, none⟩ (w.heap.size + 1) (.int .i64 s.sent) (by show w.heap.size + 1 ≠ w.heap.size; omega)).trans hL4
    have hR5 := (heap_setCell_other s4 ⟨w.heap.size, 4, none⟩ (w.heap.size + 1 + 1) (.int .i64 s.sent) (by show w.heap.size + 1 + 1 ≠ w.heap.size; omega)).trans hR4
    have hE5 : EntsAt (s4.setCell ⟨w.heap.size, 4, none⟩ (.int .i64 s.sent)) (.slice aK nK cK) al := EntsAt.put hE4 HOB.out _ _
    have hW5 : Below w.heap.size w (s4.setCell ⟨w.heap.size, 4, none⟩ (.int .i64 s.sent)) := Below.setCell hW4 (by exact Nat.le_refl _) _
    have hS5 : (s4.setCell ⟨w.heap.size, 4, none⟩ (.int .i64 s.sent)).heap.size = s4.heap.size := World.size_setCell _ _ _
    generalize (s4.setCell ⟨w.heap.size, 4, none⟩ (.int .i64 s.sent)) = s5 at hB5 hL5 hR5 hE5 hW5 hS5 ⊢
    have hB6 : (s5.setCell ⟨w.heap.size, 2, none⟩ (.int .i64 0)).heap[w.heap.size]? = some (.cells #[.int .i64 s.role, .int .i64 ((l.step : Int) + 1), .int .i64 0, .int .i64 s.got, .int .i64 s.sent, .int .i64 s.skip, .int .i64 s.cap, .string tr, .string to2, .string ti, .int .i64 draw, .int .i64 l.pub, .slice aK nK cK] 63) := heap_setCell_same _ _ _ _ _ _ hB5
    have hL6 := (heap_setCell_other s5 ⟨w.heap.size, 2, none⟩ (w.heap.size + 1) (.int .i64 0) (by show w.heap.size + 1 ≠ w.heap.size; omega)).trans hL5
    have hR6 := (heap_setCell_other s5 ⟨w.heap.size, 2, none⟩ (w.heap.size + 1 + 1) (.int .i64 0) (by show w.heap.size + 1 + 1 ≠ w.heap.size; omega)).trans hR5
    have hE6 : EntsAt (s5.setCell ⟨w.heap.size, 2, none⟩ (.int .i64 0)) (.slice aK nK cK) al := EntsAt.put hE5 HOB.out _ _
    have hW6 : Below w.heap.size w (s5.setCell ⟨w.heap.size, 2, none⟩ (.int .i64 0)) := Below.setCell hW5 (by exact Nat.le_refl _) _
    have hS6 : (s5.setCell ⟨w.heap.size, 2, none⟩ (.int .i64 0)).heap.size = s5.heap.size := World.size_setCell _ _ _
    generalize (s5.setCell ⟨w.heap.size, 2, none⟩ (.int .i64 0)) = s6 at hB6 hL6 hR6 hE6 hW6 hS6 ⊢
    have hB7 : (s6.setCell ⟨w.heap.size, 3, none⟩ (.int .i64 0)).heap[w.heap.size]? = some (.cells #[.int .i64 s.role, .int .i64 ((l.step : Int) + 1), .int .i64 0, .int .i64 0, .int .i64 s.sent, .int .i64 s.skip, .int .i64 s.cap, .string tr, .string to2, .string ti, .int .i64 draw, .int .i64 l.pub, .slice aK nK cK] 63) := heap_setCell_same _ _ _ _ _ _ hB6
    have hL7 := (heap_setCell_other s6 ⟨w.heap.size, 3, none⟩ (w.heap.size + 1) (.int .i64 0) (by show w.heap.size + 1 ≠ w.heap.size; omega)).trans hL6
    have hR7 := (heap_setCell_other s6 ⟨w.heap.size, 3, none⟩ (w.heap.size + 1 + 1) (.int .i64 0) (by show w.heap.size + 1 + 1 ≠ w.heap.size; omega)).trans hR6
    have hE7 : EntsAt (s6.setCell ⟨w.heap.size, 3, none⟩ (.int .i64 0)) (.slice aK nK cK) al := EntsAt.put hE6 HOB.out _ _
    have hW7 : Below w.heap.size w (s6.setCell ⟨w.heap.size, 3, none⟩ (.int .i64 0)) := Below.setCell hW6 (by exact Nat.le_refl _) _
    have hS7 : (s6.setCell ⟨w.heap.size, 3, none⟩ (.int .i64 0)).heap.size = s6.heap.size := World.size_setCell _ _ _
    generalize (s6.setCell ⟨w.heap.size, 3, none⟩ (.int .i64 0)) = wt at hB7 hL7 hR7 hE7 hW7 hS7 ⊢
    have hszt : w.heap.size + 1 + 1 + 1 ≤ wt.heap.size := by omega
    have HRt := hid hR7; have HWt := hid hW7; have cd := cdue wt aK nK cK hE7; obtain ⟨k0, k1, k2, k3, k4, k5, k6, k7, k8, k9, k10, k11, k12⟩ := cells13 hB7; obtain ⟨q0, q1, q2, q3, q4, q5⟩ := cells6 hL7; clear hB0 hL0 hR0 hE0 hW0 hS0 hB1 hL1 hR1 hE1 hW1 hS1 hB2 hL2 hR2 hE2 hW2 hS2 hB3 hL3 hR3 hE3 hW3 hS3 hB4 hL4 hR4 hE4 hW4 hS4 hB5 hL5 hR5 hE5 hW5 hS5 hB6 hL6 hR6 hE6 hW6 hS6 hB7 hL7 hR7 hE7 hW7 hS7 HBe HLe HRe HEe HWe cdue HOB
    obtain ⟨er, her⟩ : ∃ er, er = (refDueR t l.count).1 := ⟨_, rfl⟩
    have HER : Hid (er = (refDueR t l.count).1) := her
    have cq : Calls Tryz.prog 142 #[.agg #[.int .i64 s.role, .int .i64 ((l.step : Int) + 1), .int .i64 0, .int .i64 0, .int .i64 s.sent, .int .i64 s.skip, .int .i64 s.cap, .string tr, .string to2, .string ti, .int .i64 draw, .int .i64 l.pub, .slice aK nK cK], .agg #[.int .i64 l.step, .int .i64 l.count, .int .i64 l.prev, .int .i64 l.pub, .string (str l.head), .string (str l.body)]] wt fun e w' => (∃ (ky : ByteArray) (x : StM) (aL : Option Addr) (nL cL : Nat), e = .returned (.tuple #[.string ky, .agg #[.int .i64 x.role, .int .i64 x.step, .int .i64 x.sent, .int .i64 x.got, .int .i64 x.prev, .int .i64 x.skip, .int .i64 x.cap, .string (str x.root), .string (str x.out), .string (str x.inn), .int .i64 x.secret, .int .i64 x.peer, .slice aL nL cL], .int .i64 er]) ∧ TQ (refDueR t l.count) wt.heap.size w' ky x aL nL cL) ∧ Below wt.heap.size wt w' := by
      rw [her]; exact cd
    clear her; clear cd
    go_upto_region 19 with (first | (go_at_call 142; (with_reducible refine cq.mono ?_); rintro e w5 ⟨⟨ky, x, aL, nL, cL, rfl, hq5⟩, hb5⟩))
    have hsz5 := hb5.size
    obtain ⟨ob, eob⟩ : ∃ ob, ob = Obj.cells #[.int .i64 x.role, .int .i64 x.step, .int .i64 x.sent, .int .i64 x.got, .int .i64 x.prev, .int .i64 x.skip, .int .i64 x.cap, .string (str x.root), .string (str x.out), .string (str x.inn), .int .i64 x.secret, .int .i64 x.peer, .slice aL nL cL] 63 := ⟨_, rfl⟩
    rw [← eob]; have hX5 := heap_alloc_new w5 ob
    have hR5 : (w5.alloc ob).heap[w.heap.size + 1 + 1]? = some (.cells #[.int .i64 0, .int .i64 0, .int .i64 0, .int .i64 0, .int .i64 0, .int .i64 0, .int .i64 0, .string ⟨#[]⟩, .string ⟨#[]⟩, .string ⟨#[]⟩, .int .i64 0, .int .i64 0, .slice none 0 0] 63) := (Below.heap_alloc _ _ _ (by omega)).trans ((hb5.block (w.heap.size + 1 + 1) (by omega)).trans HRt.out)
    have hW5 : Below w.heap.size w (w5.alloc ob) := (below_tr HWt.out hb5).alloc (by omega) _
    have hQ5 : TQ (refDueR t l.count) wt.heap.size (w5.alloc ob) ky x aL nL cL := hq5.alloc _
    generalize (w5.alloc ob) = wz at hX5 hR5 hW5 hQ5 ⊢
    subst eob
    generalize w5.heap.size = B5 at hX5 ⊢
    have HZ := hid hW5; have HQZ : Hid (TQ (refDueR t l.count) wt.heap.size wz ky x aL nL cL) := hQ5; clear hW5 hQ5 hq5 hb5 hsz5 cq k0 k1 k2 k3 k4 k5 k6 k7 k8 k9 k10 k11 k12 q0 q1 q2 q3 q4 q5; obtain ⟨u0, u1, u2, u3, u4, u5, u6, u7, u8, u9, u10, u11, u12⟩ := cells13 hX5; obtain ⟨a0, a1, a2, a3, a4, a5, a6, a7, a8, a9, a10, a11, a12⟩ := cells13 hR5
    have fA : ∀ j, wz.frozen? ⟨w.heap.size + 1 + 1, j, none⟩ = false := fun j => frozen_of_row wz _ j _ _ hR5
    clear hX5 hR5
    go_region
    all_goals go_wp2
    all_goals (try simp only [Exit.inBlock, Exit.then])
    all_goals (refine bodyPost_ret (v := .tuple #[.string ky, .agg #[.int .i64 x.role, .int .i64 x.step, .int .i64 x.sent, .int .i64 x.got, .int .i64 x.prev, .int .i64 x.skip, .int .i64 x.cap, .string (str x.root), .string (str x.out), .string (str x.inn), .int .i64 x.secret, .int .i64 x.peer, .slice aL nL cL], .int .i64 er]) ?_ ?_ ?_)
    all_goals first
      | rfl
      | (rw [results_tct (fn := Tryz.f141) rfl]; simp [go_sem, a0, a1, a2, a3, a4, a5, a6, a7, a8, a9, a10, a11, a12])
      | (refine ⟨⟨ky, x, aL, nL, cL, by rw [HQ.out, HER.out]; rfl, ?_⟩, ?_⟩
         · rw [HQ.out]
           refine TQ.base (base := wt.heap.size) ?_ (by omega)
           repeat (first | (with_reducible refine TQ.put ?_ (by show w.heap.size + 1 + 1 < wt.heap.size; omega) _ _) | (with_reducible refine TQ.drew ?_))
           exact HQZ.out
         · repeat (first | (with_reducible refine Below.setCell ?_ (by show w.heap.size ≤ w.heap.size + 1 + 1; omega) _) | (with_reducible refine Below.drew ?_))
           exact HZ.out)
theorem refTurning_any (s : StM) (aa : Option Addr) (nn cc : Nat) (l : LetM) (draw : Nat) (w : World) (hls : l.step = s.step + 1) (h255 : s.step ≤ 250) (hc : l.count ≤ 254) (hpv : l.prev ≤ 150) (hg : s.got ≤ 255) (hl : s.kept.length ≤ 100) (hin : s.inn.length = 8) (hroot : s.root.length = 8) (hcap : s.cap ≤ 255) (hs : s.secret < 2147483647) (hp : l.pub < 2147483647) (hd : draw < 2147483647) (hv : EntsAt w (.slice aa nn cc) s.kept) :
    Calls Tryz.prog 141 #[.agg #[.int .i64 s.role, .int .i64 s.step, .int .i64 s.sent, .int .i64 s.got, .int .i64 s.prev, .int .i64 s.skip, .int .i64 s.cap, .string (str s.root), .string (str s.out), .string (str s.inn), .int .i64 s.secret, .int .i64 s.peer, .slice aa nn cc], .agg #[.int .i64 l.step, .int .i64 l.count, .int .i64 l.prev, .int .i64 l.pub, .string (str l.head), .string (str l.body)], .int .i64 draw] w fun e w' => TakeRef (refTurnR s l draw) w.heap.size w' e ∧ Below w.heap.size w w' := by
  by_cases h2 : 2 ≤ s.step
  · by_cases hb : skipBad s l.prev
    · exact refTurning_bad s aa nn cc l draw w hls h255 hc hpv hg hl hin hroot hcap hs hp hd hv h2 hb
    · by_cases h1 : s.skip < ofL s.kept (s.step - 1) + (l.prev - s.got)
      · exact refTurning_two s aa nn cc l draw w hls h255 hc hpv hg hl hin hroot hcap hs hp hd hv h2 hb h1
      · exact refTurning_three s aa nn cc l draw w hls h255 hc hpv hg hl hin hroot hcap hs hp hd hv h2 hb h1
  · exact refTurning_one s aa nn cc l draw w hls h255 hc hpv hg hl hin hroot hcap hs hp hd hv h2
theorem refTaken_turn (s : StM) (aa : Option Addr) (nn cc : Nat) (l : LetM) (draw : Nat) (w : World) (h255 : s.step ≤ 250) (hls : l.step ≤ 254) (hc : l.count ≤ 254) (hpv : l.prev ≤ 150) (hg : s.got ≤ 255) (hl : s.kept.length ≤ 100) (hin : s.inn.length = 8) (hroot : s.root.length = 8) (hcap : s.cap ≤ 255) (hs : s.secret < 2147483647) (hp : l.pub < 2147483647) (hd : draw < 2147483647) (hr : Rising s.kept) (hk8 : ∀ e ∈ s.kept, e.key.length = 8) (hv : EntsAt w (.slice aa nn cc) s.kept) (h1 : l.step = s.step + 1) :
    Calls Tryz.prog 115 #[.agg #[.int .i64 s.role, .int .i64 s.step, .int .i64 s.sent, .int .i64 s.got, .int .i64 s.prev, .int .i64 s.skip, .int .i64 s.cap, .string (str s.root), .string (str s.out), .string (str s.inn), .int .i64 s.secret, .int .i64 s.peer, .slice aa nn cc], .agg #[.int .i64 l.step, .int .i64 l.count, .int .i64 l.prev, .int .i64 l.pub, .string (str l.head), .string (str l.body)], .int .i64 draw] w fun e w' => TakeRef (refTakeR s l draw) w.heap.size w' e ∧ Below w.heap.size w w' := by
  have HQ : Hid (refTakeR s l draw = refTurnR s l draw) := by
    show _ = _
    rw [refTakeR, if_pos h1]
  have i1 : ((l.step : Int) == (s.step : Int) + 1) = true := by rw [h1]; simp
  have H1 : Hid (l.step = s.step + 1) := h1; clear h1
  go_enter Tryz.func115, Tryz.ntmps115
  go_upto_region 1 with fail
  obtain ⟨wb, ewb, hB, hL, hR, hW, hlt⟩ := alloc3e w (.cells #[.int .i64 s.role, .int .i64 s.step, .int .i64 s.sent, .int .i64 s.got, .int .i64 s.prev, .int .i64 s.skip, .int .i64 s.cap, .string (str s.root), .string (str s.out), .string (str s.inn), .int .i64 s.secret, .int .i64 s.peer, .slice aa nn cc] 63) (.cells #[.int .i64 l.step, .int .i64 l.count, .int .i64 l.prev, .int .i64 l.pub, .string (str l.head), .string (str l.body)] 145) (.cells #[.int .i64 0, .int .i64 0, .int .i64 0, .int .i64 0, .int .i64 0, .int .i64 0, .int .i64 0, .string ⟨#[]⟩, .string ⟨#[]⟩, .string ⟨#[]⟩, .int .i64 0, .int .i64 0, .slice none 0 0] 63); rw [← ewb]; clear ewb; have HB := hid hB; have HL := hid hL; have HR := hid hR; have HW := hid hW; have cd := refTurning_any s aa nn cc l draw wb H1.out h255 hc hpv hg hl hin hroot hcap hs hp hd (hv.next hW)
  have hszb : w.heap.size + 1 + 1 + 1 ≤ wb.heap.size := by omega
  obtain ⟨k0, k1, k2, k3, k4, k5, k6, k7, k8, k9, k10, k11, k12⟩ := cells13 hB; obtain ⟨q0, q1, q2, q3, q4, q5⟩ := cells6 hL; clear hB hL hR hW hv hr hk8
  obtain ⟨er, her⟩ : ∃ er, er = (refTurnR s l draw).1 := ⟨_, rfl⟩
  have HER : Hid (er = (refTurnR s l draw).1) := her
  have cq : Calls Tryz.prog 141 #[.agg #[.int .i64 s.role, .int .i64 s.step, .int .i64 s.sent, .int .i64 s.got, .int .i64 s.prev, .int .i64 s.skip, .int .i64 s.cap, .string (str s.root), .string (str s.out), .string (str s.inn), .int .i64 s.secret, .int .i64 s.peer, .slice aa nn cc], .agg #[.int .i64 l.step, .int .i64 l.count, .int .i64 l.prev, .int .i64 l.pub, .string (str l.head), .string (str l.body)], .int .i64 draw] wb fun e w' => (∃ (ky : ByteArray) (x : StM) (aL : Option Addr) (nL cL : Nat), e = .returned (.tuple #[.string ky, .agg #[.int .i64 x.role, .int .i64 x.step, .int .i64 x.sent, .int .i64 x.got, .int .i64 x.prev, .int .i64 x.skip, .int .i64 x.cap, .string (str x.root), .string (str x.out), .string (str x.inn), .int .i64 x.secret, .int .i64 x.peer, .slice aL nL cL], .int .i64 er]) ∧ TQ (refTurnR s l draw) wb.heap.size w' ky x aL nL cL) ∧ Below wb.heap.size wb w' := by
    rw [her]; exact cd
  clear her; clear cd
  go_upto_region 3 with (first | (go_at_call 141; (with_reducible refine cq.mono ?_); rintro e w5 ⟨⟨ky, x, aL, nL, cL, rfl, hq5⟩, hb5⟩))
  have hsz5 := hb5.size
  obtain ⟨ob, eob⟩ : ∃ ob, ob = Obj.cells #[.int .i64 x.role, .int .i64 x.step, .int .i64 x.sent, .int .i64 x.got, .int .i64 x.prev, .int .i64 x.skip, .int .i64 x.cap, .string (str x.root), .string (str x.out), .string (str x.inn), .int .i64 x.secret, .int .i64 x.peer, .slice aL nL cL] 63 := ⟨_, rfl⟩
  rw [← eob]; have hX5 := heap_alloc_new w5 ob
  have hR5 : (w5.alloc ob).heap[w.heap.size + 1 + 1]? = some (.cells #[.int .i64 0, .int .i64 0, .int .i64 0, .int .i64 0, .int .i64 0, .int .i64 0, .int .i64 0, .string ⟨#[]⟩, .string ⟨#[]⟩, .string ⟨#[]⟩, .int .i64 0, .int .i64 0, .slice none 0 0] 63) := (Below.heap_alloc _ _ _ (by omega)).trans ((hb5.block (w.heap.size + 1 + 1) (by omega)).trans HR.out)
  have hW5 : Below w.heap.size w (w5.alloc ob) := (below_tr HW.out hb5).alloc (by omega) _
  have hQ5 : TQ (refTurnR s l draw) wb.heap.size (w5.alloc ob) ky x aL nL cL := hq5.alloc _
  generalize (w5.alloc ob) = wz at hX5 hR5 hW5 hQ5 ⊢
  subst eob
  generalize w5.heap.size = B5 at hX5 ⊢
  have HZ := hid hW5; have HQZ : Hid (TQ (refTurnR s l draw) wb.heap.size wz ky x aL nL cL) := hQ5; clear hW5 hQ5 hq5 hb5 hsz5 cq k0 k1 k2 k3 k4 k5 k6 k7 k8 k9 k10 k11 k12 q0 q1 q2 q3 q4 q5; obtain ⟨u0, u1, u2, u3, u4, u5, u6, u7, u8, u9, u10, u11, u12⟩ := cells13 hX5; obtain ⟨a0, a1, a2, a3, a4, a5, a6, a7, a8, a9, a10, a11, a12⟩ := cells13 hR5
  have fA : ∀ j, wz.frozen? ⟨w.heap.size + 1 + 1, j, none⟩ = false := fun j => frozen_of_row wz _ j _ _ hR5
  clear hX5 hR5
  go_region
  all_goals go_wp2
  all_goals (try simp only [Exit.inBlock, Exit.then])
  all_goals (refine bodyPost_ret (v := .tuple #[.string ky, .agg #[.int .i64 x.role, .int .i64 x.step, .int .i64 x.sent, .int .i64 x.got, .int .i64 x.prev, .int .i64 x.skip, .int .i64 x.cap, .string (str x.root), .string (str x.out), .string (str x.inn), .int .i64 x.secret, .int .i64 x.peer, .slice aL nL cL], .int .i64 er]) ?_ ?_ ?_)
  all_goals first
    | rfl
    | (rw [results_tct (fn := Tryz.f115) rfl]; simp [go_sem, a0, a1, a2, a3, a4, a5, a6, a7, a8, a9, a10, a11, a12])
    | (refine ⟨⟨ky, x, aL, nL, cL, by rw [HQ.out, HER.out]; rfl, ?_⟩, ?_⟩
       · rw [HQ.out]
         refine TQ.base (base := wb.heap.size) ?_ (by omega)
         repeat (first | (with_reducible refine TQ.put ?_ (by show w.heap.size + 1 + 1 < wb.heap.size; omega) _ _) | (with_reducible refine TQ.drew ?_))
         exact HQZ.out
       · repeat (first | (with_reducible refine Below.setCell ?_ (by show w.heap.size ≤ w.heap.size + 1 + 1; omega) _) | (with_reducible refine Below.drew ?_))
         exact HZ.out)
theorem refTaken_due (s : StM) (aa : Option Addr) (nn cc : Nat) (l : LetM) (draw : Nat) (w : World) (h255 : s.step ≤ 250) (hls : l.step ≤ 254) (hc : l.count ≤ 254) (hpv : l.prev ≤ 150) (hg : s.got ≤ 255) (hl : s.kept.length ≤ 100) (hin : s.inn.length = 8) (hroot : s.root.length = 8) (hcap : s.cap ≤ 255) (hs : s.secret < 2147483647) (hp : l.pub < 2147483647) (hd : draw < 2147483647) (hr : Rising s.kept) (hk8 : ∀ e ∈ s.kept, e.key.length = 8) (hv : EntsAt w (.slice aa nn cc) s.kept) (h1 : ¬ l.step = s.step + 1) (h2 : l.step + 1 = s.step ∧ s.got ≤ l.count) :
    Calls Tryz.prog 115 #[.agg #[.int .i64 s.role, .int .i64 s.step, .int .i64 s.sent, .int .i64 s.got, .int .i64 s.prev, .int .i64 s.skip, .int .i64 s.cap, .string (str s.root), .string (str s.out), .string (str s.inn), .int .i64 s.secret, .int .i64 s.peer, .slice aa nn cc], .agg #[.int .i64 l.step, .int .i64 l.count, .int .i64 l.prev, .int .i64 l.pub, .string (str l.head), .string (str l.body)], .int .i64 draw] w fun e w' => TakeRef (refTakeR s l draw) w.heap.size w' e ∧ Below w.heap.size w w' := by
  have HQ : Hid (refTakeR s l draw = refDueR s l.count) := by
    show _ = _
    rw [refTakeR, if_neg h1, if_pos h2]
  have i1 : ((l.step : Int) == (s.step : Int) + 1) = false := by rw [beq_eq_false_iff_ne]; omega
  have i2 : ((l.step : Int) == (s.step : Int) - 1) = true := by rw [beq_iff_eq]; omega
  have i3 : (s.got : Int) ≤ (l.count : Int) := by omega
  have H2 : Hid (l.step + 1 = s.step ∧ s.got ≤ l.count) := h2; clear h1 h2
  go_enter Tryz.func115, Tryz.ntmps115
  go_upto_region 1 with fail
  obtain ⟨wb, ewb, hB, hL, hR, hW, hlt⟩ := alloc3e w (.cells #[.int .i64 s.role, .int .i64 s.step, .int .i64 s.sent, .int .i64 s.got, .int .i64 s.prev, .int .i64 s.skip, .int .i64 s.cap, .string (str s.root), .string (str s.out), .string (str s.inn), .int .i64 s.secret, .int .i64 s.peer, .slice aa nn cc] 63) (.cells #[.int .i64 l.step, .int .i64 l.count, .int .i64 l.prev, .int .i64 l.pub, .string (str l.head), .string (str l.body)] 145) (.cells #[.int .i64 0, .int .i64 0, .int .i64 0, .int .i64 0, .int .i64 0, .int .i64 0, .int .i64 0, .string ⟨#[]⟩, .string ⟨#[]⟩, .string ⟨#[]⟩, .int .i64 0, .int .i64 0, .slice none 0 0] 63); rw [← ewb]; clear ewb; have HB := hid hB; have HL := hid hL; have HR := hid hR; have HW := hid hW
  have cd := refDue_any s aa nn cc l wb H2.out.1 (by omega) H2.out.2 hc (by omega) hin hcap (hv.next hW)
  have hszb : w.heap.size + 1 + 1 + 1 ≤ wb.heap.size := by omega
  obtain ⟨k0, k1, k2, k3, k4, k5, k6, k7, k8, k9, k10, k11, k12⟩ := cells13 hB; obtain ⟨q0, q1, q2, q3, q4, q5⟩ := cells6 hL; clear hB hL hR hW hv hr hk8
  obtain ⟨er, her⟩ : ∃ er, er = (refDueR s l.count).1 := ⟨_, rfl⟩
  have HER : Hid (er = (refDueR s l.count).1) := her
  have cq : Calls Tryz.prog 142 #[.agg #[.int .i64 s.role, .int .i64 s.step, .int .i64 s.sent, .int .i64 s.got, .int .i64 s.prev, .int .i64 s.skip, .int .i64 s.cap, .string (str s.root), .string (str s.out), .string (str s.inn), .int .i64 s.secret, .int .i64 s.peer, .slice aa nn cc], .agg #[.int .i64 l.step, .int .i64 l.count, .int .i64 l.prev, .int .i64 l.pub, .string (str l.head), .string (str l.body)]] wb fun e w' => (∃ (ky : ByteArray) (x : StM) (aL : Option Addr) (nL cL : Nat), e = .returned (.tuple #[.string ky, .agg #[.int .i64 x.role, .int .i64 x.step, .int .i64 x.sent, .int .i64 x.got, .int .i64 x.prev, .int .i64 x.skip, .int .i64 x.cap, .string (str x.root), .string (str x.out), .string (str x.inn), .int .i64 x.secret, .int .i64 x.peer, .slice aL nL cL], .int .i64 er]) ∧ TQ (refDueR s l.count) wb.heap.size w' ky x aL nL cL) ∧ Below wb.heap.size wb w' := by
    rw [her]; exact cd
  clear her; clear cd
  go_upto_region 6 with (first | (go_at_call 142; (with_reducible refine cq.mono ?_); rintro e w5 ⟨⟨ky, x, aL, nL, cL, rfl, hq5⟩, hb5⟩))
  have hsz5 := hb5.size
  obtain ⟨ob, eob⟩ : ∃ ob, ob = Obj.cells #[.int .i64 x.role, .int .i64 x.step, .int .i64 x.sent, .int .i64 x.got, .int .i64 x.prev, .int .i64 x.skip, .int .i64 x.cap, .string (str x.root), .string (str x.out), .string (str x.inn), .int .i64 x.secret, .int .i64 x.peer, .slice aL nL cL] 63 := ⟨_, rfl⟩
  rw [← eob]; have hX5 := heap_alloc_new w5 ob
  have hR5 : (w5.alloc ob).heap[w.heap.size + 1 + 1]? = some (.cells #[.int .i64 0, .int .i64 0, .int .i64 0, .int .i64 0, .int .i64 0, .int .i64 0, .int .i64 0, .string ⟨#[]⟩, .string ⟨#[]⟩, .string ⟨#[]⟩, .int .i64 0, .int .i64 0, .slice none 0 0] 63) := (Below.heap_alloc _ _ _ (by omega)).trans ((hb5.block (w.heap.size + 1 + 1) (by omega)).trans HR.out)
  have hW5 : Below w.heap.size w (w5.alloc ob) := (below_tr HW.out hb5).alloc (by omega) _
  have hQ5 : TQ (refDueR s l.count) wb.heap.size (w5.alloc ob) ky x aL nL cL := hq5.alloc _
  generalize (w5.alloc ob) = wz at hX5 hR5 hW5 hQ5 ⊢
  subst eob
  generalize w5.heap.size = B5 at hX5 ⊢
  have HZ := hid hW5; have HQZ : Hid (TQ (refDueR s l.count) wb.heap.size wz ky x aL nL cL) := hQ5; clear hW5 hQ5 hq5 hb5 hsz5 cq k0 k1 k2 k3 k4 k5 k6 k7 k8 k9 k10 k11 k12 q0 q1 q2 q3 q4 q5; obtain ⟨u0, u1, u2, u3, u4, u5, u6, u7, u8, u9, u10, u11, u12⟩ := cells13 hX5; obtain ⟨a0, a1, a2, a3, a4, a5, a6, a7, a8, a9, a10, a11, a12⟩ := cells13 hR5
  have fA : ∀ j, wz.frozen? ⟨w.heap.size + 1 + 1, j, none⟩ = false := fun j => frozen_of_row wz _ j _ _ hR5
  clear hX5 hR5
  go_region
  all_goals go_wp2
  all_goals (try simp only [Exit.inBlock, Exit.then])
  all_goals (refine bodyPost_ret (v := .tuple #[.string ky, .agg #[.int .i64 x.role, .int .i64 x.step, .int .i64 x.sent, .int .i64 x.got, .int .i64 x.prev, .int .i64 x.skip, .int .i64 x.cap, .string (str x.root), .string (str x.out), .string (str x.inn), .int .i64 x.secret, .int .i64 x.peer, .slice aL nL cL], .int .i64 er]) ?_ ?_ ?_)
  all_goals first
    | rfl
    | (rw [results_tct (fn := Tryz.f115) rfl]; simp [go_sem, a0, a1, a2, a3, a4, a5, a6, a7, a8, a9, a10, a11, a12])
    | (refine ⟨⟨ky, x, aL, nL, cL, by rw [HQ.out, HER.out]; rfl, ?_⟩, ?_⟩
       · rw [HQ.out]
         refine TQ.base (base := wb.heap.size) ?_ (by omega)
         repeat (first | (with_reducible refine TQ.put ?_ (by show w.heap.size + 1 + 1 < wb.heap.size; omega) _ _) | (with_reducible refine TQ.drew ?_))
         exact HQZ.out
       · repeat (first | (with_reducible refine Below.setCell ?_ (by show w.heap.size ≤ w.heap.size + 1 + 1; omega) _) | (with_reducible refine Below.drew ?_))
         exact HZ.out)
theorem refTaken_old (s : StM) (aa : Option Addr) (nn cc : Nat) (l : LetM) (draw : Nat) (w : World) (h255 : s.step ≤ 250) (hls : l.step ≤ 254) (hc : l.count ≤ 254) (hpv : l.prev ≤ 150) (hg : s.got ≤ 255) (hl : s.kept.length ≤ 100) (hin : s.inn.length = 8) (hroot : s.root.length = 8) (hcap : s.cap ≤ 255) (hs : s.secret < 2147483647) (hp : l.pub < 2147483647) (hd : draw < 2147483647) (hr : Rising s.kept) (hk8 : ∀ e ∈ s.kept, e.key.length = 8) (hv : EntsAt w (.slice aa nn cc) s.kept) (h1 : ¬ l.step = s.step + 1) (h2 : ¬ (l.step + 1 = s.step ∧ s.got ≤ l.count)) (h3 : l.step + 1 = s.step) :
    Calls Tryz.prog 115 #[.agg #[.int .i64 s.role, .int .i64 s.step, .int .i64 s.sent, .int .i64 s.got, .int .i64 s.prev, .int .i64 s.skip, .int .i64 s.cap, .string (str s.root), .string (str s.out), .string (str s.inn), .int .i64 s.secret, .int .i64 s.peer, .slice aa nn cc], .agg #[.int .i64 l.step, .int .i64 l.count, .int .i64 l.prev, .int .i64 l.pub, .string (str l.head), .string (str l.body)], .int .i64 draw] w fun e w' => TakeRef (refTakeR s l draw) w.heap.size w' e ∧ Below w.heap.size w w' := by
  have HQ : Hid (refTakeR s l draw = oldR s l) := by
    show _ = _
    rw [refTakeR, if_neg h1, if_neg h2]
  have i1 : ((l.step : Int) == (s.step : Int) + 1) = false := by rw [beq_eq_false_iff_ne]; omega
  have i2 : ((l.step : Int) == (s.step : Int) - 1) = true := by rw [beq_iff_eq]; omega
  have i3 : ¬ (s.got : Int) ≤ (l.count : Int) := by omega
  clear h1 h2 h3
  go_enter Tryz.func115, Tryz.ntmps115
  go_upto_region 1 with fail
  obtain ⟨wb, ewb, hB, hL, hR, hW, hlt⟩ := alloc3e w (.cells #[.int .i64 s.role, .int .i64 s.step, .int .i64 s.sent, .int .i64 s.got, .int .i64 s.prev, .int .i64 s.skip, .int .i64 s.cap, .string (str s.root), .string (str s.out), .string (str s.inn), .int .i64 s.secret, .int .i64 s.peer, .slice aa nn cc] 63) (.cells #[.int .i64 l.step, .int .i64 l.count, .int .i64 l.prev, .int .i64 l.pub, .string (str l.head), .string (str l.body)] 145) (.cells #[.int .i64 0, .int .i64 0, .int .i64 0, .int .i64 0, .int .i64 0, .int .i64 0, .int .i64 0, .string ⟨#[]⟩, .string ⟨#[]⟩, .string ⟨#[]⟩, .int .i64 0, .int .i64 0, .slice none 0 0] 63); rw [← ewb]; clear ewb; have HB := hid hB; have HL := hid hL; have HR := hid hR; have HW := hid hW
  have cd := refOld_any s aa nn cc l wb (by omega) hr hk8 (hv.next hW)
  have hszb : w.heap.size + 1 + 1 + 1 ≤ wb.heap.size := by omega
  obtain ⟨k0, k1, k2, k3, k4, k5, k6, k7, k8, k9, k10, k11, k12⟩ := cells13 hB; obtain ⟨q0, q1, q2, q3, q4, q5⟩ := cells6 hL; clear hB hL hR hW hv hr hk8
  obtain ⟨er, her⟩ : ∃ er, er = (oldR s l).1 := ⟨_, rfl⟩
  have HER : Hid (er = (oldR s l).1) := her
  have cq : Calls Tryz.prog 143 #[.agg #[.int .i64 s.role, .int .i64 s.step, .int .i64 s.sent, .int .i64 s.got, .int .i64 s.prev, .int .i64 s.skip, .int .i64 s.cap, .string (str s.root), .string (str s.out), .string (str s.inn), .int .i64 s.secret, .int .i64 s.peer, .slice aa nn cc], .agg #[.int .i64 l.step, .int .i64 l.count, .int .i64 l.prev, .int .i64 l.pub, .string (str l.head), .string (str l.body)]] wb fun e w' => (∃ (ky : ByteArray) (x : StM) (aL : Option Addr) (nL cL : Nat), e = .returned (.tuple #[.string ky, .agg #[.int .i64 x.role, .int .i64 x.step, .int .i64 x.sent, .int .i64 x.got, .int .i64 x.prev, .int .i64 x.skip, .int .i64 x.cap, .string (str x.root), .string (str x.out), .string (str x.inn), .int .i64 x.secret, .int .i64 x.peer, .slice aL nL cL], .int .i64 er]) ∧ TQ (oldR s l) wb.heap.size w' ky x aL nL cL) ∧ Below wb.heap.size wb w' := by
    rw [her]; exact cd
  clear her; clear cd
  go_upto_region 8 with (first | (go_at_call 143; (with_reducible refine cq.mono ?_); rintro e w5 ⟨⟨ky, x, aL, nL, cL, rfl, hq5⟩, hb5⟩))
  have hsz5 := hb5.size
  obtain ⟨ob, eob⟩ : ∃ ob, ob = Obj.cells #[.int .i64 x.role, .int .i64 x.step, .int .i64 x.sent, .int .i64 x.got, .int .i64 x.prev, .int .i64 x.skip, .int .i64 x.cap, .string (str x.root), .string (str x.out), .string (str x.inn), .int .i64 x.secret, .int .i64 x.peer, .slice aL nL cL] 63 := ⟨_, rfl⟩
  rw [← eob]; have hX5 := heap_alloc_new w5 ob
  have hR5 : (w5.alloc ob).heap[w.heap.size + 1 + 1]? = some (.cells #[.int .i64 0, .int .i64 0, .int .i64 0, .int .i64 0, .int .i64 0, .int .i64 0, .int .i64 0, .string ⟨#[]⟩, .string ⟨#[]⟩, .string ⟨#[]⟩, .int .i64 0, .int .i64 0, .slice none 0 0] 63) := (Below.heap_alloc _ _ _ (by omega)).trans ((hb5.block (w.heap.size + 1 + 1) (by omega)).trans HR.out)
  have hW5 : Below w.heap.size w (w5.alloc ob) := (below_tr HW.out hb5).alloc (by omega) _
  have hQ5 : TQ (oldR s l) wb.heap.size (w5.alloc ob) ky x aL nL cL := hq5.alloc _
  generalize (w5.alloc ob) = wz at hX5 hR5 hW5 hQ5 ⊢
  subst eob
  generalize w5.heap.size = B5 at hX5 ⊢
  have HZ := hid hW5; have HQZ : Hid (TQ (oldR s l) wb.heap.size wz ky x aL nL cL) := hQ5; clear hW5 hQ5 hq5 hb5 hsz5 cq k0 k1 k2 k3 k4 k5 k6 k7 k8 k9 k10 k11 k12 q0 q1 q2 q3 q4 q5; obtain ⟨u0, u1, u2, u3, u4, u5, u6, u7, u8, u9, u10, u11, u12⟩ := cells13 hX5; obtain ⟨a0, a1, a2, a3, a4, a5, a6, a7, a8, a9, a10, a11, a12⟩ := cells13 hR5
  have fA : ∀ j, wz.frozen? ⟨w.heap.size + 1 + 1, j, none⟩ = false := fun j => frozen_of_row wz _ j _ _ hR5
  clear hX5 hR5
  go_region
  all_goals go_wp2
  all_goals (try simp only [Exit.inBlock, Exit.then])
  all_goals (refine bodyPost_ret (v := .tuple #[.string ky, .agg #[.int .i64 x.role, .int .i64 x.step, .int .i64 x.sent, .int .i64 x.got, .int .i64 x.prev, .int .i64 x.skip, .int .i64 x.cap, .string (str x.root), .string (str x.out), .string (str x.inn), .int .i64 x.secret, .int .i64 x.peer, .slice aL nL cL], .int .i64 er]) ?_ ?_ ?_)
  all_goals first
    | rfl
    | (rw [results_tct (fn := Tryz.f115) rfl]; simp [go_sem, a0, a1, a2, a3, a4, a5, a6, a7, a8, a9, a10, a11, a12])
    | (refine ⟨⟨ky, x, aL, nL, cL, by rw [HQ.out, HER.out]; rfl, ?_⟩, ?_⟩
       · rw [HQ.out]
         refine TQ.base (base := wb.heap.size) ?_ (by omega)
         repeat (first | (with_reducible refine TQ.put ?_ (by show w.heap.size + 1 + 1 < wb.heap.size; omega) _ _) | (with_reducible refine TQ.drew ?_))
         exact HQZ.out
       · repeat (first | (with_reducible refine Below.setCell ?_ (by show w.heap.size ≤ w.heap.size + 1 + 1; omega) _) | (with_reducible refine Below.drew ?_))
         exact HZ.out)
theorem refTaken_older (s : StM) (aa : Option Addr) (nn cc : Nat) (l : LetM) (draw : Nat) (w : World) (h255 : s.step ≤ 250) (hls : l.step ≤ 254) (hc : l.count ≤ 254) (hpv : l.prev ≤ 150) (hg : s.got ≤ 255) (hl : s.kept.length ≤ 100) (hin : s.inn.length = 8) (hroot : s.root.length = 8) (hcap : s.cap ≤ 255) (hs : s.secret < 2147483647) (hp : l.pub < 2147483647) (hd : draw < 2147483647) (hr : Rising s.kept) (hk8 : ∀ e ∈ s.kept, e.key.length = 8) (hv : EntsAt w (.slice aa nn cc) s.kept) (h1 : ¬ l.step = s.step + 1) (h2 : ¬ (l.step + 1 = s.step ∧ s.got ≤ l.count)) (h3 : ¬ l.step + 1 = s.step) :
    Calls Tryz.prog 115 #[.agg #[.int .i64 s.role, .int .i64 s.step, .int .i64 s.sent, .int .i64 s.got, .int .i64 s.prev, .int .i64 s.skip, .int .i64 s.cap, .string (str s.root), .string (str s.out), .string (str s.inn), .int .i64 s.secret, .int .i64 s.peer, .slice aa nn cc], .agg #[.int .i64 l.step, .int .i64 l.count, .int .i64 l.prev, .int .i64 l.pub, .string (str l.head), .string (str l.body)], .int .i64 draw] w fun e w' => TakeRef (refTakeR s l draw) w.heap.size w' e ∧ Below w.heap.size w w' := by
  have HQ : Hid (refTakeR s l draw = oldR s l) := by
    show _ = _
    rw [refTakeR, if_neg h1, if_neg h2]
  have i1 : ((l.step : Int) == (s.step : Int) + 1) = false := by rw [beq_eq_false_iff_ne]; omega
  have i2 : ((l.step : Int) == (s.step : Int) - 1) = false := by rw [beq_eq_false_iff_ne]; omega
  clear h1 h2 h3
  go_enter Tryz.func115, Tryz.ntmps115
  go_upto_region 1 with fail
  obtain ⟨wb, ewb, hB, hL, hR, hW, hlt⟩ := alloc3e w (.cells #[.int .i64 s.role, .int .i64 s.step, .int .i64 s.sent, .int .i64 s.got, .int .i64 s.prev, .int .i64 s.skip, .int .i64 s.cap, .string (str s.root), .string (str s.out), .string (str s.inn), .int .i64 s.secret, .int .i64 s.peer, .slice aa nn cc] 63) (.cells #[.int .i64 l.step, .int .i64 l.count, .int .i64 l.prev, .int .i64 l.pub, .string (str l.head), .string (str l.body)] 145) (.cells #[.int .i64 0, .int .i64 0, .int .i64 0, .int .i64 0, .int .i64 0, .int .i64 0, .int .i64 0, .string ⟨#[]⟩, .string ⟨#[]⟩, .string ⟨#[]⟩, .int .i64 0, .int .i64 0, .slice none 0 0] 63); rw [← ewb]; clear ewb; have HB := hid hB; have HL := hid hL; have HR := hid hR; have HW := hid hW
  have cd := refOld_any s aa nn cc l wb (by omega) hr hk8 (hv.next hW)
  have hszb : w.heap.size + 1 + 1 + 1 ≤ wb.heap.size := by omega
  obtain ⟨k0, k1, k2, k3, k4, k5, k6, k7, k8, k9, k10, k11, k12⟩ := cells13 hB; obtain ⟨q0, q1, q2, q3, q4, q5⟩ := cells6 hL; clear hB hL hR hW hv hr hk8
  obtain ⟨er, her⟩ : ∃ er, er = (oldR s l).1 := ⟨_, rfl⟩
  have HER : Hid (er = (oldR s l).1) := her
  have cq : Calls Tryz.prog 143 #[.agg #[.int .i64 s.role, .int .i64 s.step, .int .i64 s.sent, .int .i64 s.got, .int .i64 s.prev, .int .i64 s.skip, .int .i64 s.cap, .string (str s.root), .string (str s.out), .string (str s.inn), .int .i64 s.secret, .int .i64 s.peer, .slice aa nn cc], .agg #[.int .i64 l.step, .int .i64 l.count, .int .i64 l.prev, .int .i64 l.pub, .string (str l.head), .string (str l.body)]] wb fun e w' => (∃ (ky : ByteArray) (x : StM) (aL : Option Addr) (nL cL : Nat), e = .returned (.tuple #[.string ky, .agg #[.int .i64 x.role, .int .i64 x.step, .int .i64 x.sent, .int .i64 x.got, .int .i64 x.prev, .int .i64 x.skip, .int .i64 x.cap, .string (str x.root), .string (str x.out), .string (str x.inn), .int .i64 x.secret, .int .i64 x.peer, .slice aL nL cL], .int .i64 er]) ∧ TQ (oldR s l) wb.heap.size w' ky x aL nL cL) ∧ Below wb.heap.size wb w' := by
    rw [her]; exact cd
  clear her; clear cd
  go_upto_region 8 with (first | (go_at_call 143; (with_reducible refine cq.mono ?_); rintro e w5 ⟨⟨ky, x, aL, nL, cL, rfl, hq5⟩, hb5⟩))
  have hsz5 := hb5.size
  obtain ⟨ob, eob⟩ : ∃ ob, ob = Obj.cells #[.int .i64 x.role, .int .i64 x.step, .int .i64 x.sent, .int .i64 x.got, .int .i64 x.prev, .int .i64 x.skip, .int .i64 x.cap, .string (str x.root), .string (str x.out), .string (str x.inn), .int .i64 x.secret, .int .i64 x.peer, .slice aL nL cL] 63 := ⟨_, rfl⟩
  rw [← eob]; have hX5 := heap_alloc_new w5 ob
  have hR5 : (w5.alloc ob).heap[w.heap.size + 1 + 1]? = some (.cells #[.int .i64 0, .int .i64 0, .int .i64 0, .int .i64 0, .int .i64 0, .int .i64 0, .int .i64 0, .string ⟨#[]⟩, .string ⟨#[]⟩, .string ⟨#[]⟩, .int .i64 0, .int .i64 0, .slice none 0 0] 63) := (Below.heap_alloc _ _ _ (by omega)).trans ((hb5.block (w.heap.size + 1 + 1) (by omega)).trans HR.out)
  have hW5 : Below w.heap.size w (w5.alloc ob) := (below_tr HW.out hb5).alloc (by omega) _
  have hQ5 : TQ (oldR s l) wb.heap.size (w5.alloc ob) ky x aL nL cL := hq5.alloc _
  generalize (w5.alloc ob) = wz at hX5 hR5 hW5 hQ5 ⊢
  subst eob
  generalize w5.heap.size = B5 at hX5 ⊢
  have HZ := hid hW5; have HQZ : Hid (TQ (oldR s l) wb.heap.size wz ky x aL nL cL) := hQ5; clear hW5 hQ5 hq5 hb5 hsz5 cq k0 k1 k2 k3 k4 k5 k6 k7 k8 k9 k10 k11 k12 q0 q1 q2 q3 q4 q5; obtain ⟨u0, u1, u2, u3, u4, u5, u6, u7, u8, u9, u10, u11, u12⟩ := cells13 hX5; obtain ⟨a0, a1, a2, a3, a4, a5, a6, a7, a8, a9, a10, a11, a12⟩ := cells13 hR5
  have fA : ∀ j, wz.frozen? ⟨w.heap.size + 1 + 1, j, none⟩ = false := fun j => frozen_of_row wz _ j _ _ hR5
  clear hX5 hR5
  go_region
  all_goals go_wp2
  all_goals (try simp only [Exit.inBlock, Exit.then])
  all_goals (refine bodyPost_ret (v := .tuple #[.string ky, .agg #[.int .i64 x.role, .int .i64 x.step, .int .i64 x.sent, .int .i64 x.got, .int .i64 x.prev, .int .i64 x.skip, .int .i64 x.cap, .string (str x.root), .string (str x.out), .string (str x.inn), .int .i64 x.secret, .int .i64 x.peer, .slice aL nL cL], .int .i64 er]) ?_ ?_ ?_)
  all_goals first
    | rfl
    | (rw [results_tct (fn := Tryz.f115) rfl]; simp [go_sem, a0, a1, a2, a3, a4, a5, a6, a7, a8, a9, a10, a11, a12])
    | (refine ⟨⟨ky, x, aL, nL, cL, by rw [HQ.out, HER.out]; rfl, ?_⟩, ?_⟩
       · rw [HQ.out]
         refine TQ.base (base := wb.heap.size) ?_ (by omega)
         repeat (first | (with_reducible refine TQ.put ?_ (by show w.heap.size + 1 + 1 < wb.heap.size; omega) _ _) | (with_reducible refine TQ.drew ?_))
         exact HQZ.out
       · repeat (first | (with_reducible refine Below.setCell ?_ (by show w.heap.size ≤ w.heap.size + 1 + 1; omega) _) | (with_reducible refine Below.drew ?_))
         exact HZ.out)
theorem refTaken_any (s : StM) (aa : Option Addr) (nn cc : Nat) (l : LetM) (draw : Nat) (w : World) (h255 : s.step ≤ 250) (hls : l.step ≤ 254) (hc : l.count ≤ 254) (hpv : l.prev ≤ 150) (hg : s.got ≤ 255) (hl : s.kept.length ≤ 100) (hin : s.inn.length = 8) (hroot : s.root.length = 8) (hcap : s.cap ≤ 255) (hs : s.secret < 2147483647) (hp : l.pub < 2147483647) (hd : draw < 2147483647) (hr : Rising s.kept) (hk8 : ∀ e ∈ s.kept, e.key.length = 8) (hv : EntsAt w (.slice aa nn cc) s.kept) :
    Calls Tryz.prog 115 #[.agg #[.int .i64 s.role, .int .i64 s.step, .int .i64 s.sent, .int .i64 s.got, .int .i64 s.prev, .int .i64 s.skip, .int .i64 s.cap, .string (str s.root), .string (str s.out), .string (str s.inn), .int .i64 s.secret, .int .i64 s.peer, .slice aa nn cc], .agg #[.int .i64 l.step, .int .i64 l.count, .int .i64 l.prev, .int .i64 l.pub, .string (str l.head), .string (str l.body)], .int .i64 draw] w fun e w' => TakeRef (refTakeR s l draw) w.heap.size w' e ∧ Below w.heap.size w w' := by
  by_cases h1 : l.step = s.step + 1
  · exact refTaken_turn s aa nn cc l draw w h255 hls hc hpv hg hl hin hroot hcap hs hp hd hr hk8 hv h1
  · by_cases h2 : l.step + 1 = s.step ∧ s.got ≤ l.count
    · exact refTaken_due s aa nn cc l draw w h255 hls hc hpv hg hl hin hroot hcap hs hp hd hr hk8 hv h1 h2
    · by_cases h3 : l.step + 1 = s.step
      · exact refTaken_old s aa nn cc l draw w h255 hls hc hpv hg hl hin hroot hcap hs hp hd hr hk8 hv h1 h2 h3
      · exact refTaken_older s aa nn cc l draw w h255 hls hc hpv hg hl hin hroot hcap hs hp hd hr hk8 hv h1 h2 h3
end Go.Proofs.YtabpkohcimiceabGreat
