import Derived.Test.YtabpkohcimiceaaOpen
import Derived.Test.YtabpkohcimiceaaLink
import Derived.Laws.StructEq
namespace Go.Proofs.Ytabpkohcimiceaa
set_option maxRecDepth 100000
set_option maxHeartbeats 1000000
open Go.RowKit
set_option linter.unusedVariables false
def zeroView : Array Value := #[.int .i64 0, .int .i64 0, .int .i64 0, .int .i64 0, .int .i64 0, .int .i64 0, .int .i64 0, .int .i64 0, .int .i64 0, .string ⟨#[]⟩]
def viewCells (s : StM) : Array Value := #[.int .i64 s.role, .int .i64 s.step, .int .i64 s.sent, .int .i64 s.got, .int .i64 s.prev, .int .i64 s.skip, .int .i64 s.cap, .int .i64 (pwN 7 s.secret : Int), .int .i64 s.peer, .string (str (lettersL s.kept))]
def lookV (d : List UInt8) : Array Value := if openErr d = 0 then viewCells (heldS d) else zeroView
theorem look_err (d : ByteArray) (w : World) (hd : d.size ≤ maxLen) (h : openErr d.data.toList ≠ 0) :
    Calls Try.prog 45 #[.string d] w fun e w' => e = .returned (.tuple #[.agg zeroView, .int .i64 (openErr d.data.toList)]) ∧ Below w.heap.size w w' := by
  have hI : (openErr d.data.toList == 0) = false := by rw [beq_eq_false_iff_ne]; exact h
  have c1 : ∀ w, Calls Try.prog 96 #[.string d] w fun e w' => e = .returned (.tuple #[.agg zeroCells16, .int .i64 (openErr d.data.toList)]) ∧ Below w.heap.size w w' := by
    intro w
    refine (openDisk_any d w hd).mono ?_
    rintro e w' ⟨q, hb⟩
    rcases q with ⟨q, _⟩ | ⟨_, q⟩
    · exact absurd q h
    · exact ⟨q, hb⟩
  unfold zeroCells16 at c1
  generalize openErr d.data.toList = er at *
  go_enter Try.func45, Try.ntmps45
  go_upto_region 3 with (first | (go_at_call 96; with_reducible refine (c1 _).mono ?_; rintro e w1 ⟨rfl, hb1⟩))
  have hsz1 := hb1.size
  simp at hsz1
  have hA := (hb1.block w.heap.size (by simp)).trans (heap_alloc_new w _)
  obtain ⟨a0, a1, a2, a3, a4, a5, a6, a7, a8, a9⟩ := cells10 hA
  have fA : ∀ j, w1.frozen? ⟨w.heap.size, j, none⟩ = false := fun j => frozen_of_row w1 _ j _ _ hA
  have HW : Hid (Below w.heap.size w w1) := below_tr ((Below.refl _ _).alloc (Nat.le_refl _) _) hb1
  have hlt : w.heap.size < w1.heap.size := by omega
  clear hA hb1 c1; go_wp2
  (try simp only [Exit.inBlock, Exit.then])
  refine bodyPost_ret (v := .tuple #[.agg zeroView, .int .i64 er]) ?_ ?_ ?_
  · rw [results_cell_tmp (fn := Try.f45) rfl]; simp [go_sem, zeroView, hlt, a0, a1, a2, a3, a4, a5, a6, a7, a8, a9]
  · rfl
  · refine ⟨rfl, ?_⟩
    have hw := HW.out
    repeat (first | (with_reducible refine Below.setCell ?_ (by exact Nat.le_refl _) _) | (with_reducible refine Below.alloc ?_ (by simp; omega) _))
    exact hw
theorem look_good (d : ByteArray) (w : World) (hd : d.size ≤ maxLen) (h : openErr d.data.toList = 0) :
    Calls Try.prog 45 #[.string d] w fun e w' => e = .returned (.tuple #[.agg (viewCells (heldS d.data.toList)), .int .i64 0]) ∧ Below w.heap.size w w' := by
  obtain ⟨kk, hg⟩ := open_good _ h; obtain ⟨gl, gk⟩ := good_lawQ hg; have hsec := gl.sec; have hck := hg.kept; have hcc := hg.cap
  have c1 : ∀ w, Calls Try.prog 96 #[.string d] w fun e w' => (∃ (a : Option Addr) (n c : Nat), e = .returned (.tuple #[.agg (stateCells 3 (repL d.data.toList) (liveL d.data.toList) (heldS d.data.toList) a n c), .int .i64 0]) ∧ w'.ownsRow w.heap.size 178 3 (.slice a n c) (heldS d.data.toList).kept.length (entsCells (heldS d.data.toList).kept)) ∧ Below w.heap.size w w' := by
    intro w
    refine (openDisk_any d w hd).mono ?_
    rintro e w' ⟨q, hb⟩
    rcases q with ⟨_, q⟩ | ⟨q, _⟩
    · exact ⟨q, hb⟩
    · exact absurd h q
  have cp := fun w => devPublic_any (heldS d.data.toList).secret w (by have := hsec.2; omega)
  have cl := fun v w hv => letters_any (heldS d.data.toList).kept v w (by omega) hg.ok.keys hv
  have HV : Hid (viewCells (heldS d.data.toList) = viewCells (heldS d.data.toList)) := rfl
  unfold stateCells at c1
  unfold viewCells
  generalize str (repL d.data.toList) = rp at *
  generalize heldS d.data.toList = ss at *
  generalize liveL d.data.toList = lv at *
  generalize pwN 7 ss.secret = pn at *
  generalize str (lettersL ss.kept) = lt at *
  clear h hg gl gk hsec hck hcc HV
  go_enter Try.func45, Try.ntmps45
  go_upto_region 5 with (first | (go_at_call 96; with_reducible refine (c1 _).mono ?_; rintro e w2 ⟨⟨aa, nn, cc, rfl, hown⟩, hb2⟩))
  have hsz2 := hb2.size
  simp at hsz2
  have hA2 := (hb2.block w.heap.size (by simp)).trans (heap_alloc_new w _)
  have hAx : ((w2.alloc (Obj.cells #[.int .i64 3, .string rp, .int .i64 lv, .int .i64 ss.role, .int .i64 ss.step, .int .i64 ss.sent, .int .i64 ss.got, .int .i64 ss.prev, .int .i64 ss.skip, .int .i64 ss.cap, .string (str ss.root), .string (str ss.out), .string (str ss.inn), .int .i64 ss.secret, .int .i64 ss.peer, .slice aa nn cc] 121)).alloc (Obj.cells #[.int .i64 ss.role, .int .i64 ss.step, .int .i64 ss.sent, .int .i64 ss.got, .int .i64 ss.prev, .int .i64 ss.skip, .int .i64 ss.cap, .string (str ss.root), .string (str ss.out), .string (str ss.inn), .int .i64 ss.secret, .int .i64 ss.peer, .slice aa nn cc] 106)).heap[w.heap.size]? = some (.cells zeroView 68) := ((Below.heap_alloc _ _ _ (by simp; omega)).trans (Below.heap_alloc _ _ _ (by omega))).trans hA2
  have hst : StAt ((w2.alloc (Obj.cells #[.int .i64 3, .string rp, .int .i64 lv, .int .i64 ss.role, .int .i64 ss.step, .int .i64 ss.sent, .int .i64 ss.got, .int .i64 ss.prev, .int .i64 ss.skip, .int .i64 ss.cap, .string (str ss.root), .string (str ss.out), .string (str ss.inn), .int .i64 ss.secret, .int .i64 ss.peer, .slice aa nn cc] 121)).alloc (Obj.cells #[.int .i64 ss.role, .int .i64 ss.step, .int .i64 ss.sent, .int .i64 ss.got, .int .i64 ss.prev, .int .i64 ss.skip, .int .i64 ss.cap, .string (str ss.root), .string (str ss.out), .string (str ss.inn), .int .i64 ss.secret, .int .i64 ss.peer, .slice aa nn cc] 106)) (w2.heap.size + 1) ss (.slice aa nn cc) := by
    have := StAt.madeD (w2.alloc (Obj.cells #[.int .i64 3, .string rp, .int .i64 lv, .int .i64 ss.role, .int .i64 ss.step, .int .i64 ss.sent, .int .i64 ss.got, .int .i64 ss.prev, .int .i64 ss.skip, .int .i64 ss.cap, .string (str ss.root), .string (str ss.out), .string (str ss.inn), .int .i64 ss.secret, .int .i64 ss.peer, .slice aa nn cc] 121)) ss (.slice aa nn cc)
    have e : (w2.alloc (Obj.cells #[.int .i64 3, .string rp, .int .i64 lv, .int .i64 ss.role, .int .i64 ss.step, .int .i64 ss.sent, .int .i64 ss.got, .int .i64 ss.prev, .int .i64 ss.skip, .int .i64 ss.cap, .string (str ss.root), .string (str ss.out), .string (str ss.inn), .int .i64 ss.secret, .int .i64 ss.peer, .slice aa nn cc] 121)).heap.size = w2.heap.size + 1 := by simp
    rw [e] at this
    exact this
  have hvx : EntsAt ((w2.alloc (Obj.cells #[.int .i64 3, .string rp, .int .i64 lv, .int .i64 ss.role, .int .i64 ss.step, .int .i64 ss.sent, .int .i64 ss.got, .int .i64 ss.prev, .int .i64 ss.skip, .int .i64 ss.cap, .string (str ss.root), .string (str ss.out), .string (str ss.inn), .int .i64 ss.secret, .int .i64 ss.peer, .slice aa nn cc] 121)).alloc (Obj.cells #[.int .i64 ss.role, .int .i64 ss.step, .int .i64 ss.sent, .int .i64 ss.got, .int .i64 ss.prev, .int .i64 ss.skip, .int .i64 ss.cap, .string (str ss.root), .string (str ss.out), .string (str ss.inn), .int .i64 ss.secret, .int .i64 ss.peer, .slice aa nn cc] 106)) (.slice aa nn cc) ss.kept := EntsAt.of_own ((hown.alloc _).alloc _)
  have hwx : Below w.heap.size w ((w2.alloc (Obj.cells #[.int .i64 3, .string rp, .int .i64 lv, .int .i64 ss.role, .int .i64 ss.step, .int .i64 ss.sent, .int .i64 ss.got, .int .i64 ss.prev, .int .i64 ss.skip, .int .i64 ss.cap, .string (str ss.root), .string (str ss.out), .string (str ss.inn), .int .i64 ss.secret, .int .i64 ss.peer, .slice aa nn cc] 121)).alloc (Obj.cells #[.int .i64 ss.role, .int .i64 ss.step, .int .i64 ss.sent, .int .i64 ss.got, .int .i64 ss.prev, .int .i64 ss.skip, .int .i64 ss.cap, .string (str ss.root), .string (str ss.out), .string (str ss.inn), .int .i64 ss.secret, .int .i64 ss.peer, .slice aa nn cc] 106)) := ((below_tr ((Below.refl _ _).alloc (Nat.le_refl _) _) hb2).alloc (by omega) _).alloc (by simp; omega) _
  have hlt : w.heap.size < ((w2.alloc (Obj.cells #[.int .i64 3, .string rp, .int .i64 lv, .int .i64 ss.role, .int .i64 ss.step, .int .i64 ss.sent, .int .i64 ss.got, .int .i64 ss.prev, .int .i64 ss.skip, .int .i64 ss.cap, .string (str ss.root), .string (str ss.out), .string (str ss.inn), .int .i64 ss.secret, .int .i64 ss.peer, .slice aa nn cc] 121)).alloc (Obj.cells #[.int .i64 ss.role, .int .i64 ss.step, .int .i64 ss.sent, .int .i64 ss.got, .int .i64 ss.prev, .int .i64 ss.skip, .int .i64 ss.cap, .string (str ss.root), .string (str ss.out), .string (str ss.inn), .int .i64 ss.secret, .int .i64 ss.peer, .slice aa nn cc] 106)).heap.size := by simp; omega
  have hsx : (w2.alloc (Obj.cells #[.int .i64 3, .string rp, .int .i64 lv, .int .i64 ss.role, .int .i64 ss.step, .int .i64 ss.sent, .int .i64 ss.got, .int .i64 ss.prev, .int .i64 ss.skip, .int .i64 ss.cap, .string (str ss.root), .string (str ss.out), .string (str ss.inn), .int .i64 ss.secret, .int .i64 ss.peer, .slice aa nn cc] 121)).heap.size = w2.heap.size + 1 := by simp
  generalize ((w2.alloc (Obj.cells #[.int .i64 3, .string rp, .int .i64 lv, .int .i64 ss.role, .int .i64 ss.step, .int .i64 ss.sent, .int .i64 ss.got, .int .i64 ss.prev, .int .i64 ss.skip, .int .i64 ss.cap, .string (str ss.root), .string (str ss.out), .string (str ss.inn), .int .i64 ss.secret, .int .i64 ss.peer, .slice aa nn cc] 121)).alloc (Obj.cells #[.int .i64 ss.role, .int .i64 ss.step, .int .i64 ss.sent, .int .i64 ss.got, .int .i64 ss.prev, .int .i64 ss.skip, .int .i64 ss.cap, .string (str ss.root), .string (str ss.out), .string (str ss.inn), .int .i64 ss.secret, .int .i64 ss.peer, .slice aa nn cc] 106)) = wx at hAx hst hvx hwx hlt ⊢
  (try rw [hsx])
  have hBn : w2.heap.size + 1 ≠ w.heap.size := by omega
  generalize w2.heap.size + 1 = B at hst hBn ⊢
  have HS := hid hst; have HV := hid hvx; have HA := hid (hAx); have HW := hid hwx; obtain ⟨lt0, k0, k1, k2, k3, k4, k5, k6, k7, k8, k9, k10, k11, k12⟩ := hst; clear hA2 hAx hvx hwx hown hb2 c1 hsz2 hsx; have hne : ¬ B = w.heap.size := hBn
  have hne2 : ¬ w.heap.size = B := fun e => hBn e.symm
  go_region_held3 (fun w' => w'.cell? ⟨B, 0, none⟩ = some (.int .i64 ss.role) ∧ w'.cell? ⟨B, 1, none⟩ = some (.int .i64 ss.step) ∧ w'.cell? ⟨B, 2, none⟩ = some (.int .i64 ss.sent) ∧ w'.cell? ⟨B, 3, none⟩ = some (.int .i64 ss.got) ∧ w'.cell? ⟨B, 4, none⟩ = some (.int .i64 ss.prev) ∧ w'.cell? ⟨B, 5, none⟩ = some (.int .i64 ss.skip) ∧ w'.cell? ⟨B, 6, none⟩ = some (.int .i64 ss.cap) ∧ w'.cell? ⟨B, 10, none⟩ = some (.int .i64 ss.secret) ∧ w'.cell? ⟨B, 11, none⟩ = some (.int .i64 ss.peer) ∧ w'.cell? ⟨B, 12, none⟩ = some (.slice aa nn cc)) (first | (simp [k0, k1, k2, k3, k4, k5, k6, k10, k11, k12]; done) | (simp [g0, g1, g2, g3, g4, g5, g6, g10, g11, g12]; done) | (simp (maxDischargeDepth := 40) [World.cell?_setCell_far, g0, g1, g2, g3, g4, g5, g6, g10, g11, g12, hne2]; done)) (first | (go_at_call 54; go_must (with_reducible refine (cp _).mono ?_); rintro e w' ⟨rfl, hw⟩; rw [hw]; clear hw w') | (go_at_call 97; go_must (with_reducible refine (cl _ _ (by first | exact HV.out | exact HV.out.next (Below.refl _ _).drew)).mono ?_); rintro e w3 ⟨rfl, hb3⟩; have hb3' : Below wx.heap.size wx w3 := ⟨hb3.os, hb3.tape, hb3.output, hb3.size, hb3.block⟩; obtain ⟨lt1, g0, g1, g2, g3, g4, g5, g6, g7, g8, g9, g10, g11, g12⟩ := HS.out.next hb3'; have hA3 := (hb3'.block w.heap.size hlt).trans HA.out; obtain ⟨a0, a1, a2, a3, a4, a5, a6, a7, a8, a9⟩ := cells10 hA3; have fA : ∀ j, w3.frozen? ⟨w.heap.size, j, none⟩ = false := fun j => frozen_of_row w3 _ j _ _ hA3; have HW3 : Hid (Below w.heap.size w w3) := below_tr HW.out hb3'; clear hA3 hb3 hb3'))
  all_goals (go_wp2)
  all_goals (try simp only [Exit.inBlock, Exit.then])
  all_goals (refine bodyPost_ret (v := .tuple #[.agg #[.int .i64 ss.role, .int .i64 ss.step, .int .i64 ss.sent, .int .i64 ss.got, .int .i64 ss.prev, .int .i64 ss.skip, .int .i64 ss.cap, .int .i64 pn, .int .i64 ss.peer, .string lt], .int .i64 0]) ?_ ?_ ?_)
  all_goals first
    | (refine ⟨rfl, ?_⟩; (repeat (with_reducible refine Below.setCell ?_ (by exact Nat.le_refl _) _)); exact HW3.out)
    | rfl
    | (rw [results_cell_tmp (fn := Try.f45) rfl]; simp [go_sem, a0, a1, a2, a3, a4, a5, a6, a7, a8, a9])
theorem look_any (d : ByteArray) (w : World) (hd : d.size ≤ maxLen) :
    Calls Try.prog 45 #[.string d] w fun e w' => e = .returned (.tuple #[.agg (lookV d.data.toList), .int .i64 (openErr d.data.toList)]) ∧ Below w.heap.size w w' := by
  by_cases h : openErr d.data.toList = 0
  · rw [lookV, if_pos h, h]; exact look_good d w hd h
  · rw [lookV, if_neg h]; exact look_err d w hd h
theorem Try.viewUnder : Try.prog.underlying 68 = some (.struct (Try.prog.fieldsOf 68)) := by kernel_rfl
theorem Try.viewHeld : Try.prog.stoodInHeld 68 = false := by kernel_rfl
theorem view_eql (x0 x1 x2 x3 x4 x5 x6 x7 x8 : Int) (x9 : ByteArray) (w : World) : (Op.equalIn 10000 68 (.agg #[.int .i64 x0, .int .i64 x1, .int .i64 x2, .int .i64 x3, .int .i64 x4, .int .i64 x5, .int .i64 x6, .int .i64 x7, .int .i64 x8, .string x9]) (.agg #[.int .i64 x0, .int .i64 x1, .int .i64 x2, .int .i64 x3, .int .i64 x4, .int .i64 x5, .int .i64 x6, .int .i64 x7, .int .i64 x8, .string x9])).run Try.prog w = .ok true w := by
  have u3 := Try.underlying3; have a3 := Try.isAgg3; have z3 := Try.sizeOf3; have u9 := Try.underlying9; have a9 := Try.isAgg9; have z9 := Try.sizeOf9
  rw [show (10000 : Nat) = 9999 + 1 from rfl, run_equalIn_agg w 9999 68 _ _ Try.viewUnder Try.viewHeld]
  simp only [Program.fieldsOf, Try.underlying68]
  go_simp
end Go.Proofs.Ytabpkohcimiceaa
