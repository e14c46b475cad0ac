import Derived.Test.YtabpkohcimiceabFindX
namespace Go.Proofs.Ytabpkohcimiceab
set_option maxRecDepth 100000
set_option maxHeartbeats 1000000
open Go.RowKit
set_option linter.unusedVariables false
def zeroCells16 : Array Value := #[.int .i64 0, .string ⟨#[]⟩, .int .i64 0, .int .i64 0, .int .i64 0, .int .i64 0, .int .i64 0, .int .i64 0, .int .i64 0, .int .i64 0, .string ⟨#[]⟩, .string ⟨#[]⟩, .string ⟨#[]⟩, .int .i64 0, .int .i64 0, .slice none 0 0]
set_option maxHeartbeats 600000 in
theorem openDisk_1 (d : ByteArray) (k : Nat) (w : World) (hk : d.size = k * 32) (hk1 : 1 ≤ k) (hk2 : k ≤ 40) (hD : isDiskL d.data.toList = true) (hs : sortL d.data.toList = 1) :
    Calls Try.prog 37 #[.string d] w fun e w' => e = .returned (.tuple #[.agg zeroCells16, .int .i64 10]) ∧ Below w.heap.size w w' := by
  have c1 := fun w => devDisk_any d w (by unfold maxLen; omega)
  rw [hD] at c1
  have c2 : ∀ w, Calls Try.prog 54 #[.string d] w fun e w' => (∃ (ss : StM) (lv : Nat) (a : Option Addr) (n c : Nat), e = .returned (.agg (stateCells 1 (repL d.data.toList) lv ss a n c))) ∧ Below w.heap.size w w' := by
    intro w
    refine (find_any d k w hk hk1 hk2).mono ?_
    rintro e w' ⟨⟨ss, lv, a, n, c, he, _⟩, hb⟩
    rw [hs] at he
    exact ⟨⟨ss, lv, a, n, c, he⟩, hb⟩
  unfold stateCells at c2
  generalize str (repL d.data.toList) = rp at *
  clear hs hD
  go_enter Try.func37, Try.ntmps37
  go_upto_region 8 with (first | (go_at_call 53; refine (c1 _).mono ?_; rintro e w' ⟨rfl, hw⟩; rw [hw]; clear hw w') | (go_at_call 54; with_reducible refine (c2 _).mono ?_; rintro e w2 ⟨⟨ss, lv, a, n, c, rfl⟩, hb2⟩))
  have hsz2 := hb2.size
  simp at hsz2
  have hA2 := (hb2.block w.heap.size (by simp)).trans (heap_alloc_new w _)
  obtain ⟨a0, a1, a2, a3, a4, a5, a6, a7, a8, a9, a10, a11, a12, a13, a14, a15⟩ := cells16 hA2
  have fA : ∀ j, w2.frozen? ⟨w.heap.size, j, none⟩ = false := fun j => frozen_of_row w2 _ j _ _ hA2
  have hlt2 : w.heap.size < w2.heap.size := by omega
  have HW2 : Hid (Below w.heap.size w w2) := below_tr ((Below.refl _ _).alloc (Nat.le_refl _) _) hb2; clear hA2 hb2; clear c1 c2; go_wp2
  (try simp only [Exit.inBlock, Exit.then])
  refine bodyPost_ret (v := .tuple #[.agg zeroCells16, .int .i64 10]) ?_ ?_ ?_
  · rw [results_cell_tmp (fn := Try.f37) rfl]; simp [go_sem, zeroCells16, hlt2, a0, a1, a2, a3, a4, a5, a6, a7, a8, a9, a10, a11, a12, a13, a14, a15]
  · rfl
  · refine ⟨rfl, ?_⟩
    have hw := HW2.out
    repeat (first | (with_reducible refine Below.setCell ?_ (by exact Nat.le_refl _) _) | (with_reducible refine Below.alloc ?_ (by simp; omega) _))
    exact hw
set_option maxHeartbeats 600000 in
theorem openDisk_2 (d : ByteArray) (k : Nat) (w : World) (hk : d.size = k * 32) (hk1 : 1 ≤ k) (hk2 : k ≤ 40) (hD : isDiskL d.data.toList = true) (hs : sortL d.data.toList = 2) :
    Calls Try.prog 37 #[.string d] w fun e w' => e = .returned (.tuple #[.agg zeroCells16, .int .i64 11]) ∧ Below w.heap.size w w' := by
  have c1 := fun w => devDisk_any d w (by unfold maxLen; omega)
  rw [hD] at c1
  have c2 : ∀ w, Calls Try.prog 54 #[.string d] w fun e w' => (∃ (ss : StM) (lv : Nat) (a : Option Addr) (n c : Nat), e = .returned (.agg (stateCells 2 (repL d.data.toList) lv ss a n c))) ∧ Below w.heap.size w w' := by
    intro w
    refine (find_any d k w hk hk1 hk2).mono ?_
    rintro e w' ⟨⟨ss, lv, a, n, c, he, _⟩, hb⟩
    rw [hs] at he
    exact ⟨⟨ss, lv, a, n, c, he⟩, hb⟩
  unfold stateCells at c2
  generalize str (repL d.data.toList) = rp at *
  clear hs hD
  go_enter Try.func37, Try.ntmps37
  go_upto_region 10 with (first | (go_at_call 53; refine (c1 _).mono ?_; rintro e w' ⟨rfl, hw⟩; rw [hw]; clear hw w') | (go_at_call 54; with_reducible refine (c2 _).mono ?_; rintro e w2 ⟨⟨ss, lv, a, n, c, rfl⟩, hb2⟩))
  have hsz2 := hb2.size
  simp at hsz2
  have hA2 := (hb2.block w.heap.size (by simp)).trans (heap_alloc_new w _)
  obtain ⟨a0, a1, a2, a3, a4, a5, a6, a7, a8, a9, a10, a11, a12, a13, a14, a15⟩ := cells16 hA2
  have fA : ∀ j, w2.frozen? ⟨w.heap.size, j, none⟩ = false := fun j => frozen_of_row w2 _ j _ _ hA2
  have hlt2 : w.heap.size < w2.heap.size := by omega
  have HW2 : Hid (Below w.heap.size w w2) := below_tr ((Below.refl _ _).alloc (Nat.le_refl _) _) hb2; clear hA2 hb2; clear c1 c2; go_wp2
  (try simp only [Exit.inBlock, Exit.then])
  refine bodyPost_ret (v := .tuple #[.agg zeroCells16, .int .i64 11]) ?_ ?_ ?_
  · rw [results_cell_tmp (fn := Try.f37) rfl]; simp [go_sem, zeroCells16, hlt2, a0, a1, a2, a3, a4, a5, a6, a7, a8, a9, a10, a11, a12, a13, a14, a15]
  · rfl
  · refine ⟨rfl, ?_⟩
    have hw := HW2.out
    repeat (first | (with_reducible refine Below.setCell ?_ (by exact Nat.le_refl _) _) | (with_reducible refine Below.alloc ?_ (by simp; omega) _))
    exact hw
set_option maxHeartbeats 600000 in
theorem openDisk_0 (d : ByteArray) (k : Nat) (w : World) (hk : d.size = k * 32) (hk1 : 1 ≤ k) (hk2 : k ≤ 40) (hD : isDiskL d.data.toList = true) (hs : sortL d.data.toList = 0) :
    Calls Try.prog 37 #[.string d] w fun e w' => e = .returned (.tuple #[.agg zeroCells16, .int .i64 12]) ∧ Below w.heap.size w w' := by
  have c1 := fun w => devDisk_any d w (by unfold maxLen; omega)
  rw [hD] at c1
  have c2 : ∀ w, Calls Try.prog 54 #[.string d] w fun e w' => (∃ (ss : StM) (lv : Nat) (a : Option Addr) (n c : Nat), e = .returned (.agg (stateCells 0 (repL d.data.toList) lv ss a n c))) ∧ Below w.heap.size w w' := by
    intro w
    refine (find_any d k w hk hk1 hk2).mono ?_
    rintro e w' ⟨⟨ss, lv, a, n, c, he, _⟩, hb⟩
    rw [hs] at he
    exact ⟨⟨ss, lv, a, n, c, he⟩, hb⟩
  unfold stateCells at c2
  generalize str (repL d.data.toList) = rp at *
  clear hs hD
  go_enter Try.func37, Try.ntmps37
  go_upto_region 11 with (first | (go_at_call 53; refine (c1 _).mono ?_; rintro e w' ⟨rfl, hw⟩; rw [hw]; clear hw w') | (go_at_call 54; with_reducible refine (c2 _).mono ?_; rintro e w2 ⟨⟨ss, lv, a, n, c, rfl⟩, hb2⟩))
  have hsz2 := hb2.size
  simp at hsz2
  have hA2 := (hb2.block w.heap.size (by simp)).trans (heap_alloc_new w _)
  obtain ⟨a0, a1, a2, a3, a4, a5, a6, a7, a8, a9, a10, a11, a12, a13, a14, a15⟩ := cells16 hA2
  have fA : ∀ j, w2.frozen? ⟨w.heap.size, j, none⟩ = false := fun j => frozen_of_row w2 _ j _ _ hA2
  have hlt2 : w.heap.size < w2.heap.size := by omega
  have HW2 : Hid (Below w.heap.size w w2) := below_tr ((Below.refl _ _).alloc (Nat.le_refl _) _) hb2; clear hA2 hb2; clear c1 c2; go_wp2
  (try simp only [Exit.inBlock, Exit.then])
  refine bodyPost_ret (v := .tuple #[.agg zeroCells16, .int .i64 12]) ?_ ?_ ?_
  · rw [results_cell_tmp (fn := Try.f37) rfl]; simp [go_sem, zeroCells16, hlt2, a0, a1, a2, a3, a4, a5, a6, a7, a8, a9, a10, a11, a12, a13, a14, a15]
  · rfl
  · refine ⟨rfl, ?_⟩
    have hw := HW2.out
    repeat (first | (with_reducible refine Below.setCell ?_ (by exact Nat.le_refl _) _) | (with_reducible refine Below.alloc ?_ (by simp; omega) _))
    exact hw
theorem openDisk_no (d : ByteArray) (w : World) (hd : d.size ≤ maxLen) (hD : isDiskL d.data.toList = false) :
    Calls Try.prog 37 #[.string d] w fun e w' => e = .returned (.tuple #[.agg zeroCells16, .int .i64 6]) ∧ Below w.heap.size w w' := by
  have c1 := fun w => devDisk_any d w hd
  rw [hD] at c1
  go_enter Try.func37, Try.ntmps37
  go_wp2_with (first | (go_at_call 53; refine (c1 _).mono ?_; rintro e w' ⟨rfl, hw⟩; rw [hw]; clear hw w'))
  (try simp only [Exit.inBlock, Exit.then])
  refine bodyPost_ret (v := .tuple #[.agg zeroCells16, .int .i64 6]) ?_ ?_ ?_
  · rw [results_cell_tmp (fn := Try.f37) rfl]; simp [go_sem, zeroCells16]
  · rfl
  · exact ⟨rfl, (Below.refl _ _).alloc (Nat.le_refl _) _⟩
theorem openDisk_3 (d : ByteArray) (k : Nat) (w : World) (hk : d.size = k * 32) (hk1 : 1 ≤ k) (hk2 : k ≤ 40) (hD : isDiskL d.data.toList = true) (hs : sortL d.data.toList = 3) :
    Calls Try.prog 37 #[.string d] w fun e w' => (∃ (a : Option Addr) (n c : Nat), e = .returned (.tuple #[.agg (stateCells 3 (repL d.data.toList) (liveL d.data.toList) (heldS d.data.toList) a n c), .int .i64 0]) ∧ w'.ownsRow w.heap.size 142 3 (.slice a n c) (heldS d.data.toList).kept.length (entsCells (heldS d.data.toList).kept)) ∧ Below w.heap.size w w' := by
  have c1 := fun w => devDisk_any d w (by unfold maxLen; omega)
  rw [hD] at c1
  have c2 : ∀ w, Calls Try.prog 54 #[.string d] w fun e w' => (∃ (a : Option Addr) (n c : Nat), e = .returned (.agg (stateCells 3 (repL d.data.toList) (liveL d.data.toList) (heldS d.data.toList) a n c)) ∧ w'.ownsRow w.heap.size 142 3 (.slice a n c) (heldS d.data.toList).kept.length (entsCells (heldS d.data.toList).kept)) ∧ Below w.heap.size w w' := by
    intro w
    refine (find_any d k w hk hk1 hk2).mono ?_
    rintro e w' ⟨⟨ss, lv, a, n, c, he, hh⟩, hb⟩
    obtain ⟨q1, q2, q3⟩ := hh hs; subst q1 q2
    rw [hs] at he
    exact ⟨⟨a, n, c, he, q3⟩, hb⟩
  unfold stateCells at *
  generalize str (repL d.data.toList) = rp at *
  generalize heldS d.data.toList = ss at *
  generalize liveL d.data.toList = lv at *
  clear hs hD
  go_enter Try.func37, Try.ntmps37
  go_upto_region 6 with (first | (go_at_call 53; refine (c1 _).mono ?_; rintro e w' ⟨rfl, hw⟩; rw [hw]; clear hw w') | (go_at_call 54; with_reducible refine (c2 _).mono ?_; rintro e w2 ⟨⟨aa, nn, cc, rfl, hv⟩, hb2⟩))
  have hsz2 := hb2.size
  simp at hsz2
  have hA2 := (hb2.block w.heap.size (by simp)).trans (heap_alloc_new w _)
  have hlt2 : w.heap.size < w2.heap.size := by omega
  have hAx := (Below.heap_alloc w2 (Obj.cells #[.int .i64 3, .string rp, .int .i64 lv, .int .i64 ss.role, .int .i64 ss.step, .int .i64 ss.sent, .int .i64 ss.got, .int .i64 ss.prev, .int .i64 ss.skip, .int .i64 ss.cap, .string (str ss.root), .string (str ss.out), .string (str ss.inn), .int .i64 ss.secret, .int .i64 ss.peer, .slice aa nn cc] 86) _ hlt2).trans hA2; have hBx := heap_alloc_new w2 (Obj.cells #[.int .i64 3, .string rp, .int .i64 lv, .int .i64 ss.role, .int .i64 ss.step, .int .i64 ss.sent, .int .i64 ss.got, .int .i64 ss.prev, .int .i64 ss.skip, .int .i64 ss.cap, .string (str ss.root), .string (str ss.out), .string (str ss.inn), .int .i64 ss.secret, .int .i64 ss.peer, .slice aa nn cc] 86)
  have hox : (w2.alloc (Obj.cells #[.int .i64 3, .string rp, .int .i64 lv, .int .i64 ss.role, .int .i64 ss.step, .int .i64 ss.sent, .int .i64 ss.got, .int .i64 ss.prev, .int .i64 ss.skip, .int .i64 ss.cap, .string (str ss.root), .string (str ss.out), .string (str ss.inn), .int .i64 ss.secret, .int .i64 ss.peer, .slice aa nn cc] 86)).ownsRow (w.heap.size + 1) 142 3 (.slice aa nn cc) ss.kept.length (entsCells ss.kept) := ownsRow_base (hv.alloc _) (by simp)
  have hwx : Below w.heap.size w (w2.alloc (Obj.cells #[.int .i64 3, .string rp, .int .i64 lv, .int .i64 ss.role, .int .i64 ss.step, .int .i64 ss.sent, .int .i64 ss.got, .int .i64 ss.prev, .int .i64 ss.skip, .int .i64 ss.cap, .string (str ss.root), .string (str ss.out), .string (str ss.inn), .int .i64 ss.secret, .int .i64 ss.peer, .slice aa nn cc] 86)) := (below_tr ((Below.refl _ _).alloc (Nat.le_refl _) _) hb2).alloc (by omega) _
  have hlx : w2.heap.size < (w2.alloc (Obj.cells #[.int .i64 3, .string rp, .int .i64 lv, .int .i64 ss.role, .int .i64 ss.step, .int .i64 ss.sent, .int .i64 ss.got, .int .i64 ss.prev, .int .i64 ss.skip, .int .i64 ss.cap, .string (str ss.root), .string (str ss.out), .string (str ss.inn), .int .i64 ss.secret, .int .i64 ss.peer, .slice aa nn cc] 86)).heap.size := by simp
  have k0 : (w2.alloc (Obj.cells #[.int .i64 3, .string rp, .int .i64 lv, .int .i64 ss.role, .int .i64 ss.step, .int .i64 ss.sent, .int .i64 ss.got, .int .i64 ss.prev, .int .i64 ss.skip, .int .i64 ss.cap, .string (str ss.root), .string (str ss.out), .string (str ss.inn), .int .i64 ss.secret, .int .i64 ss.peer, .slice aa nn cc] 86)).cell? ⟨w2.heap.size, 0, none⟩ = some (.int .i64 3) := cell_of_row _ _ 0 _ _ _ hBx; have k1 : (w2.alloc (Obj.cells #[.int .i64 3, .string rp, .int .i64 lv, .int .i64 ss.role, .int .i64 ss.step, .int .i64 ss.sent, .int .i64 ss.got, .int .i64 ss.prev, .int .i64 ss.skip, .int .i64 ss.cap, .string (str ss.root), .string (str ss.out), .string (str ss.inn), .int .i64 ss.secret, .int .i64 ss.peer, .slice aa nn cc] 86)).cell? ⟨w2.heap.size, 1, none⟩ = some (.string rp) := cell_of_row _ _ 1 _ _ _ hBx; have k2 : (w2.alloc (Obj.cells #[.int .i64 3, .string rp, .int .i64 lv, .int .i64 ss.role, .int .i64 ss.step, .int .i64 ss.sent, .int .i64 ss.got, .int .i64 ss.prev, .int .i64 ss.skip, .int .i64 ss.cap, .string (str ss.root), .string (str ss.out), .string (str ss.inn), .int .i64 ss.secret, .int .i64 ss.peer, .slice aa nn cc] 86)).cell? ⟨w2.heap.size, 2, none⟩ = some (.int .i64 lv) := cell_of_row _ _ 2 _ _ _ hBx; have k3 : (w2.alloc (Obj.cells #[.int .i64 3, .string rp, .int .i64 lv, .int .i64 ss.role, .int .i64 ss.step, .int .i64 ss.sent, .int .i64 ss.got, .int .i64 ss.prev, .int .i64 ss.skip, .int .i64 ss.cap, .string (str ss.root), .string (str ss.out), .string (str ss.inn), .int .i64 ss.secret, .int .i64 ss.peer, .slice aa nn cc] 86)).cell? ⟨w2.heap.size, 3, none⟩ = some (.int .i64 ss.role) := cell_of_row _ _ 3 _ _ _ hBx; have k4 : (w2.alloc (Obj.cells #[.int .i64 3, .string rp, .int .i64 lv, .int .i64 ss.role, .int .i64 ss.step, .int .i64 ss.sent, .int .i64 ss.got, .int .i64 ss.prev, .int .i64 ss.skip, .int .i64 ss.cap, .string (str ss.root), .string (str ss.out), .string (str ss.inn), .int .i64 ss.secret, .int .i64 ss.peer, .slice aa nn cc] 86)).cell? ⟨w2.heap.size, 4, none⟩ = some (.int .i64 ss.step) := cell_of_row _ _ 4 _ _ _ hBx; have k5 : (w2.alloc (Obj.cells #[.int .i64 3, .string rp, .int .i64 lv, .int .i64 ss.role, .int .i64 ss.step, .int .i64 ss.sent, .int .i64 ss.got, .int .i64 ss.prev, .int .i64 ss.skip, .int .i64 ss.cap, .string (str ss.root), .string (str ss.out), .string (str ss.inn), .int .i64 ss.secret, .int .i64 ss.peer, .slice aa nn cc] 86)).cell? ⟨w2.heap.size, 5, none⟩ = some (.int .i64 ss.sent) := cell_of_row _ _ 5 _ _ _ hBx; have k6 : (w2.alloc (Obj.cells #[.int .i64 3, .string rp, .int .i64 lv, .int .i64 ss.role, .int .i64 ss.step, .int .i64 ss.sent, .int .i64 ss.got, .int .i64 ss.prev, .int .i64 ss.skip, .int .i64 ss.cap, .string (str ss.root), .string (str ss.out), .string (str ss.inn), .int .i64 ss.secret, .int .i64 ss.peer, .slice aa nn cc] 86)).cell? ⟨w2.heap.size, 6, none⟩ = some (.int .i64 ss.got) := cell_of_row _ _ 6 _ _ _ hBx; have k7 : (w2.alloc (Obj.cells #[.int .i64 3, .string rp, .int .i64 lv, .int .i64 ss.role, .int .i64 ss.step, .int .i64 ss.sent, .int .i64 ss.got, .int .i64 ss.prev, .int .i64 ss.skip, .int .i64 ss.cap, .string (str ss.root), .string (str ss.out), .string (str ss.inn), .int .i64 ss.secret, .int .i64 ss.peer, .slice aa nn cc] 86)).cell? ⟨w2.heap.size, 7, none⟩ = some (.int .i64 ss.prev) := cell_of_row _ _ 7 _ _ _ hBx; have k8 : (w2.alloc (Obj.cells #[.int .i64 3, .string rp, .int .i64 lv, .int .i64 ss.role, .int .i64 ss.step, .int .i64 ss.sent, .int .i64 ss.got, .int .i64 ss.prev, .int .i64 ss.skip, .int .i64 ss.cap, .string (str ss.root), .string (str ss.out), .string (str ss.inn), .int .i64 ss.secret, .int .i64 ss.peer, .slice aa nn cc] 86)).cell? ⟨w2.heap.size, 8, none⟩ = some (.int .i64 ss.skip) := cell_of_row _ _ 8 _ _ _ hBx; have k9 : (w2.alloc (Obj.cells #[.int .i64 3, .string rp, .int .i64 lv, .int .i64 ss.role, .int .i64 ss.step, .int .i64 ss.sent, .int .i64 ss.got, .int .i64 ss.prev, .int .i64 ss.skip, .int .i64 ss.cap, .string (str ss.root), .string (str ss.out), .string (str ss.inn), .int .i64 ss.secret, .int .i64 ss.peer, .slice aa nn cc] 86)).cell? ⟨w2.heap.size, 9, none⟩ = some (.int .i64 ss.cap) := cell_of_row _ _ 9 _ _ _ hBx; have k10 : (w2.alloc (Obj.cells #[.int .i64 3, .string rp, .int .i64 lv, .int .i64 ss.role, .int .i64 ss.step, .int .i64 ss.sent, .int .i64 ss.got, .int .i64 ss.prev, .int .i64 ss.skip, .int .i64 ss.cap, .string (str ss.root), .string (str ss.out), .string (str ss.inn), .int .i64 ss.secret, .int .i64 ss.peer, .slice aa nn cc] 86)).cell? ⟨w2.heap.size, 10, none⟩ = some (.string (str ss.root)) := cell_of_row _ _ 10 _ _ _ hBx; have k11 : (w2.alloc (Obj.cells #[.int .i64 3, .string rp, .int .i64 lv, .int .i64 ss.role, .int .i64 ss.step, .int .i64 ss.sent, .int .i64 ss.got, .int .i64 ss.prev, .int .i64 ss.skip, .int .i64 ss.cap, .string (str ss.root), .string (str ss.out), .string (str ss.inn), .int .i64 ss.secret, .int .i64 ss.peer, .slice aa nn cc] 86)).cell? ⟨w2.heap.size, 11, none⟩ = some (.string (str ss.out)) := cell_of_row _ _ 11 _ _ _ hBx; have k12 : (w2.alloc (Obj.cells #[.int .i64 3, .string rp, .int .i64 lv, .int .i64 ss.role, .int .i64 ss.step, .int .i64 ss.sent, .int .i64 ss.got, .int .i64 ss.prev, .int .i64 ss.skip, .int .i64 ss.cap, .string (str ss.root), .string (str ss.out), .string (str ss.inn), .int .i64 ss.secret, .int .i64 ss.peer, .slice aa nn cc] 86)).cell? ⟨w2.heap.size, 12, none⟩ = some (.string (str ss.inn)) := cell_of_row _ _ 12 _ _ _ hBx; have k13 : (w2.alloc (Obj.cells #[.int .i64 3, .string rp, .int .i64 lv, .int .i64 ss.role, .int .i64 ss.step, .int .i64 ss.sent, .int .i64 ss.got, .int .i64 ss.prev, .int .i64 ss.skip, .int .i64 ss.cap, .string (str ss.root), .string (str ss.out), .string (str ss.inn), .int .i64 ss.secret, .int .i64 ss.peer, .slice aa nn cc] 86)).cell? ⟨w2.heap.size, 13, none⟩ = some (.int .i64 ss.secret) := cell_of_row _ _ 13 _ _ _ hBx; have k14 : (w2.alloc (Obj.cells #[.int .i64 3, .string rp, .int .i64 lv, .int .i64 ss.role, .int .i64 ss.step, .int .i64 ss.sent, .int .i64 ss.got, .int .i64 ss.prev, .int .i64 ss.skip, .int .i64 ss.cap, .string (str ss.root), .string (str ss.out), .string (str ss.inn), .int .i64 ss.secret, .int .i64 ss.peer, .slice aa nn cc] 86)).cell? ⟨w2.heap.size, 14, none⟩ = some (.int .i64 ss.peer) := cell_of_row _ _ 14 _ _ _ hBx; have k15 : (w2.alloc (Obj.cells #[.int .i64 3, .string rp, .int .i64 lv, .int .i64 ss.role, .int .i64 ss.step, .int .i64 ss.sent, .int .i64 ss.got, .int .i64 ss.prev, .int .i64 ss.skip, .int .i64 ss.cap, .string (str ss.root), .string (str ss.out), .string (str ss.inn), .int .i64 ss.secret, .int .i64 ss.peer, .slice aa nn cc] 86)).cell? ⟨w2.heap.size, 15, none⟩ = some (.slice aa nn cc) := cell_of_row _ _ 15 _ _ _ hBx
  generalize (w2.alloc (Obj.cells #[.int .i64 3, .string rp, .int .i64 lv, .int .i64 ss.role, .int .i64 ss.step, .int .i64 ss.sent, .int .i64 ss.got, .int .i64 ss.prev, .int .i64 ss.skip, .int .i64 ss.cap, .string (str ss.root), .string (str ss.out), .string (str ss.inn), .int .i64 ss.secret, .int .i64 ss.peer, .slice aa nn cc] 86)) = wx at hAx hox hwx hlx k0 k1 k2 k3 k4 k5 k6 k7 k8 k9 k10 k11 k12 k13 k14 k15 ⊢
  generalize w2.heap.size = B at hlt2 hlx k0 k1 k2 k3 k4 k5 k6 k7 k8 k9 k10 k11 k12 k13 k14 k15 ⊢
  obtain ⟨a0, a1, a2, a3, a4, a5, a6, a7, a8, a9, a10, a11, a12, a13, a14, a15⟩ := cells16 hAx
  have fA : ∀ j, wx.frozen? ⟨w.heap.size, j, none⟩ = false := fun j => frozen_of_row wx _ j _ _ hAx
  have HO := hid hox; have HW := hid hwx; clear hb2 hA2 hAx hBx hv hox hwx c1 c2 hsz2; go_wp2
  (try simp only [Exit.inBlock, Exit.then])
  refine bodyPost_ret (v := .tuple #[.agg #[.int .i64 3, .string rp, .int .i64 lv, .int .i64 ss.role, .int .i64 ss.step, .int .i64 ss.sent, .int .i64 ss.got, .int .i64 ss.prev, .int .i64 ss.skip, .int .i64 ss.cap, .string (str ss.root), .string (str ss.out), .string (str ss.inn), .int .i64 ss.secret, .int .i64 ss.peer, .slice aa nn cc], .int .i64 0]) ?_ ?_ ?_
  · rw [results_cell_tmp (fn := Try.f37) rfl]; simp [go_sem, a0, a1, a2, a3, a4, a5, a6, a7, a8, a9, a10, a11, a12, a13, a14, a15]
  · rfl
  · refine ⟨⟨aa, nn, cc, rfl, ?_⟩, ?_⟩
    · refine ownsRow_base (base := w.heap.size + 1) ?_ (Nat.le_succ _)
      repeat (with_reducible refine ownsRow_setCell_below ?_ (by exact Nat.lt_succ_self _) _)
      exact HO.out
    · repeat (with_reducible refine Below.setCell ?_ (by exact Nat.le_refl _) _)
      exact HW.out
def openErr (d : List UInt8) : Int := if isDiskL d = true then (if sortL d = 3 then 0 else if sortL d = 1 then 10 else if sortL d = 2 then 11 else 12) else 6
def OpenOut (d : List UInt8) (base : Nat) (w' : World) (e : Ending) : Prop :=
  (openErr d = 0 ∧ ∃ (a : Option Addr) (n c : Nat), e = .returned (.tuple #[.agg (stateCells 3 (repL d) (liveL d) (heldS d) a n c), .int .i64 0]) ∧ w'.ownsRow base 142 3 (.slice a n c) (heldS d).kept.length (entsCells (heldS d).kept)) ∨
  (openErr d ≠ 0 ∧ e = .returned (.tuple #[.agg zeroCells16, .int .i64 (openErr d)]))
theorem sort_cases (d : List UInt8) : sortL d = 0 ∨ sortL d = 1 ∨ sortL d = 2 ∨ sortL d = 3 := by
  rw [sortL]
  split
  · exact .inr (.inl rfl)
  · split
    · exact .inr (.inr (.inl rfl))
    · split
      · split
        · exact .inr (.inr (.inr rfl))
        · exact .inr (.inr (.inl rfl))
      · exact .inl rfl
theorem openDisk_any (d : ByteArray) (w : World) (hd : d.size ≤ maxLen) :
    Calls Try.prog 37 #[.string d] w fun e w' => OpenOut d.data.toList w.heap.size w' e ∧ Below w.heap.size w w' := by
  cases hD : isDiskL d.data.toList with
  | false =>
    refine (openDisk_no d w hd hD).mono ?_
    rintro e w' ⟨he, hb⟩
    have h6 : openErr d.data.toList = 6 := by rw [openErr, if_neg (by rw [hD]; simp)]
    exact ⟨.inr ⟨by rw [h6]; omega, by rw [h6]; exact he⟩, hb⟩
  | true =>
    obtain ⟨k, hk, hk1, hk2⟩ := disk_factsD hD
    have hE : openErr d.data.toList = (if sortL d.data.toList = 3 then 0 else if sortL d.data.toList = 1 then 10 else if sortL d.data.toList = 2 then 11 else 12) := by rw [openErr, if_pos hD]
    rcases sort_cases d.data.toList with hs | hs | hs | hs
    · have h6 : openErr d.data.toList = 12 := by rw [hE, hs]; rfl
      refine (openDisk_0 d k w hk hk1 hk2 hD hs).mono ?_
      rintro e w' ⟨he, hb⟩
      exact ⟨.inr ⟨by rw [h6]; omega, by rw [h6]; exact he⟩, hb⟩
    · have h6 : openErr d.data.toList = 10 := by rw [hE, hs]; rfl
      refine (openDisk_1 d k w hk hk1 hk2 hD hs).mono ?_
      rintro e w' ⟨he, hb⟩
      exact ⟨.inr ⟨by rw [h6]; omega, by rw [h6]; exact he⟩, hb⟩
    · have h6 : openErr d.data.toList = 11 := by rw [hE, hs]; rfl
      refine (openDisk_2 d k w hk hk1 hk2 hD hs).mono ?_
      rintro e w' ⟨he, hb⟩
      exact ⟨.inr ⟨by rw [h6]; omega, by rw [h6]; exact he⟩, hb⟩
    · have h6 : openErr d.data.toList = 0 := by rw [hE, hs]; rfl
      refine (openDisk_3 d k w hk hk1 hk2 hD hs).mono ?_
      rintro e w' ⟨he, hb⟩
      exact ⟨.inl ⟨h6, he⟩, hb⟩
end Go.Proofs.Ytabpkohcimiceab
