import Derived.Test.YtabpkohcimiceabGreatLawA
import Derived.Laws.StructEq
namespace Go.Proofs.YtabpkohcimiceabGreat
set_option maxRecDepth 100000
set_option maxHeartbeats 1000000
open Go.RowKit
set_option linter.unusedVariables false
def zeroView : Array Value := #[.int .i64 0, .int .i64 0, .int .i64 0, .int .i64 0, .int .i64 0, .int .i64 0, .int .i64 0, .int .i64 0, .int .i64 0, .string ⟨#[]⟩]
def viewCells (s : StM) : Array Value := #[.int .i64 s.role, .int .i64 s.step, .int .i64 s.sent, .int .i64 s.got, .int .i64 s.prev, .int .i64 s.skip, .int .i64 s.cap, .int .i64 (pwN 7 s.secret : Int), .int .i64 s.peer, .string (str (lettersL s.kept))]
def lookV (d : List UInt8) : Array Value := if openErr d = 0 then viewCells (heldS d) else zeroView
theorem look_err (d : ByteArray) (w : World) (hd : d.size ≤ maxLen) (h : openErr d.data.toList ≠ 0) :
    Calls Tryz.prog 32 #[.string d] w fun e w' => e = .returned (.tuple #[.agg zeroView, .int .i64 (openErr d.data.toList)]) ∧ Below w.heap.size w w' := by
  have hI : (openErr d.data.toList == 0) = false := by rw [beq_eq_false_iff_ne]; exact h
  have c1 : ∀ w, Calls Tryz.prog 67 #[.string d] w fun e w' => e = .returned (.tuple #[.agg zeroCells16, .int .i64 (openErr d.data.toList)]) ∧ Below w.heap.size w w' := by
    intro w
    refine (openDisk_any d w hd).mono ?_
    rintro e w' ⟨q, hb⟩
    rcases q with ⟨q, _⟩ | ⟨_, q⟩
    · exact absurd q h
    · exact ⟨q, hb⟩
  unfold zeroCells16 at c1
  generalize openErr d.data.toList = er at *
  go_enter Tryz.func32, Tryz.ntmps32
  go_upto_region 3 with (first | (go_at_call 67; with_reducible refine (c1 _).mono ?_; rintro e w1 ⟨rfl, hb1⟩))
  have hsz1 := hb1.size
  simp at hsz1
  have hA := (hb1.block w.heap.size (by simp)).trans (heap_alloc_new w _)
  obtain ⟨a0, a1, a2, a3, a4, a5, a6, a7, a8, a9⟩ := cells10 hA
  have fA : ∀ j, w1.frozen? ⟨w.heap.size, j, none⟩ = false := fun j => frozen_of_row w1 _ j _ _ hA
  have HW : Hid (Below w.heap.size w w1) := below_tr ((Below.refl _ _).alloc (Nat.le_refl _) _) hb1
  have hlt : w.heap.size < w1.heap.size := by omega
  clear hA hb1 c1; go_wp2
  (try simp only [Exit.inBlock, Exit.then])
  refine bodyPost_ret (v := .tuple #[.agg zeroView, .int .i64 er]) ?_ ?_ ?_
  · rw [results_cell_tmp (fn := Tryz.f32) rfl]; simp [go_sem, zeroView, hlt, a0, a1, a2, a3, a4, a5, a6, a7, a8, a9]
  · rfl
  · refine ⟨rfl, ?_⟩
    have hw := HW.out
    repeat (first | (with_reducible refine Below.setCell ?_ (by exact Nat.le_refl _) _) | (with_reducible refine Below.alloc ?_ (by simp; omega) _))
    exact hw
theorem look_good (d : ByteArray) (w : World) (hd : d.size ≤ maxLen) (h : openErr d.data.toList = 0) :
    Calls Tryz.prog 32 #[.string d] w fun e w' => e = .returned (.tuple #[.agg (viewCells (heldS d.data.toList)), .int .i64 0]) ∧ Below w.heap.size w w' := by
  obtain ⟨kk, hg⟩ := open_good _ h; obtain ⟨gl, gk⟩ := good_lawQ hg; have hsec := gl.sec; have hck := hg.kept; have hcc := hg.cap
  have c1 : ∀ w, Calls Tryz.prog 67 #[.string d] w fun e w' => (∃ (a : Option Addr) (n c : Nat), e = .returned (.tuple #[.agg (stateCells 3 (repL d.data.toList) (liveL d.data.toList) (heldS d.data.toList) a n c), .int .i64 0]) ∧ w'.ownsRow w.heap.size 154 3 (.slice a n c) (heldS d.data.toList).kept.length (entsCells (heldS d.data.toList).kept)) ∧ Below w.heap.size w w' := by
    intro w
    refine (openDisk_any d w hd).mono ?_
    rintro e w' ⟨q, hb⟩
    rcases q with ⟨_, q⟩ | ⟨q, _⟩
    · exact ⟨q, hb⟩
    · exact absurd h q
  have cp := fun w => devPublic_any (heldS d.data.toList).secret w (by have := hsec.2; omega)
  have cl := fun v w hv => letters_any (heldS d.data.toList).kept v w (by omega) hg.ok.keys hv
  have HV : Hid (viewCells (heldS d.data.toList) = viewCells (heldS d.data.toList)) := rfl
  unfold stateCells at c1
  unfold viewCells
  generalize str (repL d.data.toList) = rp at *
  generalize heldS d.data.toList = ss at *
  generalize liveL d.data.toList = lv at *
  generalize pwN 7 ss.secret = pn at *
  generalize str (lettersL ss.kept) = lt at *
  clear h hg gl gk hsec hck hcc HV
  go_enter Tryz.func32, Tryz.ntmps32
  go_upto_region 5 with (first | (go_at_call 67; with_reducible refine (c1 _).mono ?_; rintro e w2 ⟨⟨aa, nn, cc, rfl, hown⟩, hb2⟩))
  have hsz2 := hb2.size
  simp at hsz2
  have hA2 := (hb2.block w.heap.size (by simp)).trans (heap_alloc_new w _)
  have hAx : ((w2.alloc (Obj.cells #[.int .i64 3, .string rp, .int .i64 lv, .int .i64 ss.role, .int .i64 ss.step, .int .i64 ss.sent, .int .i64 ss.got, .int .i64 ss.prev, .int .i64 ss.skip, .int .i64 ss.cap, .string (str ss.root), .string (str ss.out), .string (str ss.inn), .int .i64 ss.secret, .int .i64 ss.peer, .slice aa nn cc] 98)).alloc (Obj.cells #[.int .i64 ss.role, .int .i64 ss.step, .int .i64 ss.sent, .int .i64 ss.got, .int .i64 ss.prev, .int .i64 ss.skip, .int .i64 ss.cap, .string (str ss.root), .string (str ss.out), .string (str ss.inn), .int .i64 ss.secret, .int .i64 ss.peer, .slice aa nn cc] 90)).heap[w.heap.size]? = some (.cells zeroView 58) := ((Below.heap_alloc _ _ _ (by simp; omega)).trans (Below.heap_alloc _ _ _ (by omega))).trans hA2
  have hst : StAt ((w2.alloc (Obj.cells #[.int .i64 3, .string rp, .int .i64 lv, .int .i64 ss.role, .int .i64 ss.step, .int .i64 ss.sent, .int .i64 ss.got, .int .i64 ss.prev, .int .i64 ss.skip, .int .i64 ss.cap, .string (str ss.root), .string (str ss.out), .string (str ss.inn), .int .i64 ss.secret, .int .i64 ss.peer, .slice aa nn cc] 98)).alloc (Obj.cells #[.int .i64 ss.role, .int .i64 ss.step, .int .i64 ss.sent, .int .i64 ss.got, .int .i64 ss.prev, .int .i64 ss.skip, .int .i64 ss.cap, .string (str ss.root), .string (str ss.out), .string (str ss.inn), .int .i64 ss.secret, .int .i64 ss.peer, .slice aa nn cc] 90)) (w2.heap.size + 1) ss (.slice aa nn cc) := by
    have := StAt.madeD (w2.alloc (Obj.cells #[.int .i64 3, .string rp, .int .i64 lv, .int .i64 ss.role, .int .i64 ss.step, .int .i64 ss.sent, .int .i64 ss.got, .int .i64 ss.prev, .int .i64 ss.skip, .int .i64 ss.cap, .string (str ss.root), .string (str ss.out), .string (str ss.inn), .int .i64 ss.secret, .int .i64 ss.peer, .slice aa nn cc] 98)) ss (.slice aa nn cc)
    have e : (w2.alloc (Obj.cells #[.int .i64 3, .string rp, .int .i64 lv, .int .i64 ss.role, .int .i64 ss.step, .int .i64 ss.sent, .int .i64 ss.got, .int .i64 ss.prev, .int .i64 ss.skip, .int .i64 ss.cap, .string (str ss.root), .string (str ss.out), .string (str ss.inn), .int .i64 ss.secret, .int .i64 ss.peer, .slice aa nn cc] 98)).heap.size = w2.heap.size + 1 := by simp
    rw [e] at this
    exact this
  have hvx : EntsAt ((w2.alloc (Obj.cells #[.int .i64 3, .string rp, .int .i64 lv, .int .i64 ss.role, .int .i64 ss.step, .int .i64 ss.sent, .int .i64 ss.got, .int .i64 ss.prev, .int .i64 ss.skip, .int .i64 ss.cap, .string (str ss.root), .string (str ss.out), .string (str ss.inn), .int .i64 ss.secret, .int .i64 ss.peer, .slice aa nn cc] 98)).alloc (Obj.cells #[.int .i64 ss.role, .int .i64 ss.step, .int .i64 ss.sent, .int .i64 ss.got, .int .i64 ss.prev, .int .i64 ss.skip, .int .i64 ss.cap, .string (str ss.root), .string (str ss.out), .string (str ss.inn), .int .i64 ss.secret, .int .i64 ss.peer, .slice aa nn cc] 90)) (.slice aa nn cc) ss.kept := EntsAt.of_own ((hown.alloc _).alloc _)
  have hwx : Below w.heap.size w ((w2.alloc (Obj.cells #[.int .i64 3, .string rp, .int .i64 lv, .int .i64 ss.role, .int .i64 ss.step, .int .i64 ss.sent, .int .i64 ss.got, .int .i64 ss.prev, .int .i64 ss.skip, .int .i64 ss.cap, .string (str ss.root), .string (str ss.out), .string (str ss.inn), .int .i64 ss.secret, .int .i64 ss.peer, .slice aa nn cc] 98)).alloc (Obj.cells #[.int .i64 ss.role, .int .i64 ss.step, .int .i64 ss.sent, .int .i64 ss.got, .int .i64 ss.prev, .int .i64 ss.skip, .int .i64 ss.cap, .string (str ss.root), .string (str ss.out), .string (str ss.inn), .int .i64 ss.secret, .int .i64 ss.peer, .slice aa nn cc] 90)) := ((below_tr ((Below.refl _ _).alloc (Nat.le_refl _) _) hb2).alloc (by omega) _).alloc (by simp; omega) _
  have hlt : w.heap.size < ((w2.alloc (Obj.cells #[.int .i64 3, .string rp, .int .i64 lv, .int .i64 ss.role, .int .i64 ss.step, .int .i64 ss.sent, .int .i64 ss.got, .int .i64 ss.prev, .int .i64 ss.skip, .int .i64 ss.cap, .string (str ss.root), .string (str ss.out), .string (str ss.inn), .int .i64 ss.secret, .int .i64 ss.peer, .slice aa nn cc] 98)).alloc (Obj.cells #[.int .i64 ss.role, .int .i64 ss.step, .int .i64 ss.sent, .int .i64 ss.got, .int .i64 ss.prev, .int .i64 ss.skip, .int .i64 ss.cap, .string (str ss.root), .string (str ss.out), .string (str ss.inn), .int .i64 ss.secret, .int .i64 ss.peer, .slice aa nn cc] 90)).heap.size := by simp; omega
  have hsx : (w2.alloc (Obj.cells #[.int .i64 3, .string rp, .int .i64 lv, .int .i64 ss.role, .int .i64 ss.step, .int .i64 ss.sent, .int .i64 ss.got, .int .i64 ss.prev, .int .i64 ss.skip, .int .i64 ss.cap, .string (str ss.root), .string (str ss.out), .string (str ss.inn), .int .i64 ss.secret, .int .i64 ss.peer, .slice aa nn cc] 98)).heap.size = w2.heap.size + 1 := by simp
  generalize ((w2.alloc (Obj.cells #[.int .i64 3, .string rp, .int .i64 lv, .int .i64 ss.role, .int .i64 ss.step, .int .i64 ss.sent, .int .i64 ss.got, .int .i64 ss.prev, .int .i64 ss.skip, .int .i64 ss.cap, .string (str ss.root), .string (str ss.out), .string (str ss.inn), .int .i64 ss.secret, .int .i64 ss.peer, .slice aa nn cc] 98)).alloc (Obj.cells #[.int .i64 ss.role, .int .i64 ss.step, .int .i64 ss.sent, .int .i64 ss.got, .int .i64 ss.prev, .int .i64 ss.skip, .int .i64 ss.cap, .string (str ss.root), .string (str ss.out), .string (str ss.inn), .int .i64 ss.secret, .int .i64 ss.peer, .slice aa nn cc] 90)) = wx at hAx hst hvx hwx hlt ⊢
  (try rw [hsx])
  have hBn : w2.heap.size + 1 ≠ w.heap.size := by omega
  generalize w2.heap.size + 1 = B at hst hBn ⊢
  have HS := hid hst; have HV := hid hvx; have HA := hid (hAx); have HW := hid hwx; obtain ⟨lt0, k0, k1, k2, k3, k4, k5, k6, k7, k8, k9, k10, k11, k12⟩ := hst; clear hA2 hAx hvx hwx hown hb2 c1 hsz2 hsx; have hne : ¬ B = w.heap.size := hBn
  have hne2 : ¬ w.heap.size = B := fun e => hBn e.symm
  go_region_held3 (fun w' => w'.cell? ⟨B, 0, none⟩ = some (.int .i64 ss.role) ∧ w'.cell? ⟨B, 1, none⟩ = some (.int .i64 ss.step) ∧ w'.cell? ⟨B, 2, none⟩ = some (.int .i64 ss.sent) ∧ w'.cell? ⟨B, 3, none⟩ = some (.int .i64 ss.got) ∧ w'.cell? ⟨B, 4, none⟩ = some (.int .i64 ss.prev) ∧ w'.cell? ⟨B, 5, none⟩ = some (.int .i64 ss.skip) ∧ w'.cell? ⟨B, 6, none⟩ = some (.int .i64 ss.cap) ∧ w'.cell? ⟨B, 10, none⟩ = some (.int .i64 ss.secret) ∧ w'.cell? ⟨B, 11, none⟩ = some (.int .i64 ss.peer) ∧ w'.cell? ⟨B, 12, none⟩ = some (.slice aa nn cc)) (first | (simp [k0, k1, k2, k3, k4, k5, k6, k10, k11, k12]; done) | (simp [g0, g1, g2, g3, g4, g5, g6, g10, g11, g12]; done) | (simp (maxDischargeDepth := 40) [World.cell?_setCell_far, g0, g1, g2, g3, g4, g5, g6, g10, g11, g12, hne2]; done)) (first | (go_at_call 73; go_must (with_reducible refine (cp _).mono ?_); rintro e w' ⟨rfl, hw⟩; rw [hw]; clear hw w') | (go_at_call 74; go_must (with_reducible refine (cl _ _ (by first | exact HV.out | exact HV.out.next (Below.refl _ _).drew)).mono ?_); rintro e w3 ⟨rfl, hb3⟩; have hb3' : Below wx.heap.size wx w3 := ⟨hb3.os, hb3.tape, hb3.output, hb3.size, hb3.block⟩; obtain ⟨lt1, g0, g1, g2, g3, g4, g5, g6, g7, g8, g9, g10, g11, g12⟩ := HS.out.next hb3'; have hA3 := (hb3'.block w.heap.size hlt).trans HA.out; obtain ⟨a0, a1, a2, a3, a4, a5, a6, a7, a8, a9⟩ := cells10 hA3; have fA : ∀ j, w3.frozen? ⟨w.heap.size, j, none⟩ = false := fun j => frozen_of_row w3 _ j _ _ hA3; have HW3 : Hid (Below w.heap.size w w3) := below_tr HW.out hb3'; clear hA3 hb3 hb3'))
  all_goals (go_wp2)
  all_goals (try simp only [Exit.inBlock, Exit.then])
  all_goals (refine bodyPost_ret (v := .tuple #[.agg #[.int .i64 ss.role, .int .i64 ss.step, .int .i64 ss.sent, .int .i64 ss.got, .int .i64 ss.prev, .int .i64 ss.skip, .int .i64 ss.cap, .int .i64 pn, .int .i64 ss.peer, .string lt], .int .i64 0]) ?_ ?_ ?_)
  all_goals first
    | (refine ⟨rfl, ?_⟩; (repeat (with_reducible refine Below.setCell ?_ (by exact Nat.le_refl _) _)); exact HW3.out)
    | rfl
    | (rw [results_cell_tmp (fn := Tryz.f32) rfl]; simp [go_sem, a0, a1, a2, a3, a4, a5, a6, a7, a8, a9])
theorem look_any (d : ByteArray) (w : World) (hd : d.size ≤ maxLen) :
    Calls Tryz.prog 32 #[.string d] w fun e w' => e = .returned (.tuple #[.agg (lookV d.data.toList), .int .i64 (openErr d.data.toList)]) ∧ Below w.heap.size w w' := by
  by_cases h : openErr d.data.toList = 0
  · rw [lookV, if_pos h, h]; exact look_good d w hd h
  · rw [lookV, if_neg h]; exact look_err d w hd h
theorem Tryz.viewUnder : Tryz.prog.underlying 58 = some (.struct (Tryz.prog.fieldsOf 58)) := by kernel_rfl
theorem Tryz.viewHeld : Tryz.prog.stoodInHeld 58 = false := by kernel_rfl
theorem Tryz.viewGuard : Tryz.prog.eqGuardType Tryz.prog.depth 58 = false := by kernel_rfl
theorem view_eql (x0 x1 x2 x3 x4 x5 x6 x7 x8 : Int) (x9 : ByteArray) (w : World) : (Op.equalIn 10000 58 (.agg #[.int .i64 x0, .int .i64 x1, .int .i64 x2, .int .i64 x3, .int .i64 x4, .int .i64 x5, .int .i64 x6, .int .i64 x7, .int .i64 x8, .string x9]) (.agg #[.int .i64 x0, .int .i64 x1, .int .i64 x2, .int .i64 x3, .int .i64 x4, .int .i64 x5, .int .i64 x6, .int .i64 x7, .int .i64 x8, .string x9])).run Tryz.prog w = .ok true w := by
  have u3 := Tryz.underlying3; have a3 := Tryz.isAgg3; have z3 := Tryz.sizeOf3; have u9 := Tryz.underlying9; have a9 := Tryz.isAgg9; have z9 := Tryz.sizeOf9
  rw [show (10000 : Nat) = 9999 + 1 from rfl, run_equalIn_agg w 9999 58 _ _ Tryz.viewUnder Tryz.viewHeld]
  simp only [Program.fieldsOf, Tryz.underlying58]
  go_simp
theorem looked_err (d : ByteArray) (w : World) (hd : d.size ≤ maxLen) (h : openErr d.data.toList ≠ 0) :
    Calls Tryz.prog 10 #[.string d] w fun e w' => e = .returned (.bool true) ∧ Below w.heap.size w w' := by
  have hI : (openErr d.data.toList == 0) = false := by rw [beq_eq_false_iff_ne]; exact h
  have c1 := fun w => look_any d w hd
  rw [lookV, if_neg h] at c1
  have c2 : ∀ w, Calls Tryz.prog 33 #[.string d] w fun e w' => e = .returned (.tuple #[.agg zeroCells13, .int .i64 0, .int .i64 (openErr d.data.toList)]) ∧ Below w.heap.size w w' := by
    intro w
    refine (refOpen_any d w hd).mono ?_
    rintro e w' ⟨q, hb⟩
    rcases q with ⟨q, _⟩ | ⟨_, q⟩
    · exact absurd q h
    · exact ⟨q, hb⟩
  have c3 : ∀ w, Calls Tryz.prog 35 #[.agg zeroCells13] w fun e w' => e = .returned (.string ⟨#[]⟩) ∧ Below w.heap.size w w' := fun w => refKept_any zeroS (.slice none 0 0) w (by decide) (fun e he => by simp [zeroS] at he) (.inl ⟨rfl, rfl⟩)
  have hbd := open_pos d.data.toList
  unfold zeroView at c1
  unfold zeroCells13 at c2 c3
  generalize openErr d.data.toList = er at *
  have kq := view_eql; have kg := Tryz.viewGuard
  go_enter Tryz.func10, Tryz.ntmps10
  go_upto_region 9 with (first | (go_at_call 32; with_reducible refine (c1 _).mono ?_; rintro e w1 ⟨rfl, hb1⟩) | (go_at_call 33; with_reducible refine (c2 _).mono ?_; rintro e w2 ⟨rfl, hb2⟩) | (go_at_call 34; with_reducible refine (c4 _).mono ?_; rintro e w' ⟨rfl, hw⟩; rw [hw]; clear hw w') | go_in)
  have hsz2 := hb2.size; have hsz1 := hb1.size
  simp at hsz2
  have hV2 := (hb2.block w1.heap.size (by simp)).trans (heap_alloc_new w1 _)
  have hS2 := heap_alloc_new w2 (.cells #[.int .i64 0, .int .i64 0, .int .i64 0, .int .i64 0, .int .i64 0, .int .i64 0, .int .i64 0, .string ⟨#[]⟩, .string ⟨#[]⟩, .string ⟨#[]⟩, .int .i64 0, .int .i64 0, .slice none 0 0] 63)
  have hV0 : ((w2.alloc (.cells #[.int .i64 0, .int .i64 0, .int .i64 0, .int .i64 0, .int .i64 0, .int .i64 0, .int .i64 0, .string ⟨#[]⟩, .string ⟨#[]⟩, .string ⟨#[]⟩, .int .i64 0, .int .i64 0, .slice none 0 0] 63)).alloc (.cells #[.int .i64 0, .int .i64 0, .int .i64 0, .int .i64 0, .int .i64 0, .int .i64 0, .int .i64 0, .int .i64 0, .int .i64 0, .string ⟨#[]⟩] 58)).heap[w1.heap.size]? = some (.cells #[.int .i64 0, .int .i64 0, .int .i64 0, .int .i64 0, .int .i64 0, .int .i64 0, .int .i64 0, .int .i64 0, .int .i64 0, .string ⟨#[]⟩] 58) := ((Below.heap_alloc _ _ _ (by simp; omega)).trans (Below.heap_alloc _ _ _ (by omega))).trans hV2
  have hS0 : ((w2.alloc (.cells #[.int .i64 0, .int .i64 0, .int .i64 0, .int .i64 0, .int .i64 0, .int .i64 0, .int .i64 0, .string ⟨#[]⟩, .string ⟨#[]⟩, .string ⟨#[]⟩, .int .i64 0, .int .i64 0, .slice none 0 0] 63)).alloc (.cells #[.int .i64 0, .int .i64 0, .int .i64 0, .int .i64 0, .int .i64 0, .int .i64 0, .int .i64 0, .int .i64 0, .int .i64 0, .string ⟨#[]⟩] 58)).heap[w2.heap.size]? = some (.cells #[.int .i64 0, .int .i64 0, .int .i64 0, .int .i64 0, .int .i64 0, .int .i64 0, .int .i64 0, .string ⟨#[]⟩, .string ⟨#[]⟩, .string ⟨#[]⟩, .int .i64 0, .int .i64 0, .slice none 0 0] 63) := (Below.heap_alloc _ _ _ (by simp)).trans hS2
  have hW0 : ((w2.alloc (.cells #[.int .i64 0, .int .i64 0, .int .i64 0, .int .i64 0, .int .i64 0, .int .i64 0, .int .i64 0, .string ⟨#[]⟩, .string ⟨#[]⟩, .string ⟨#[]⟩, .int .i64 0, .int .i64 0, .slice none 0 0] 63)).alloc (.cells #[.int .i64 0, .int .i64 0, .int .i64 0, .int .i64 0, .int .i64 0, .int .i64 0, .int .i64 0, .int .i64 0, .int .i64 0, .string ⟨#[]⟩] 58)).heap[w2.heap.size + 1]? = some (.cells #[.int .i64 0, .int .i64 0, .int .i64 0, .int .i64 0, .int .i64 0, .int .i64 0, .int .i64 0, .int .i64 0, .int .i64 0, .string ⟨#[]⟩] 58) := by
    have := heap_alloc_new (w2.alloc (.cells #[.int .i64 0, .int .i64 0, .int .i64 0, .int .i64 0, .int .i64 0, .int .i64 0, .int .i64 0, .string ⟨#[]⟩, .string ⟨#[]⟩, .string ⟨#[]⟩, .int .i64 0, .int .i64 0, .slice none 0 0] 63)) (.cells #[.int .i64 0, .int .i64 0, .int .i64 0, .int .i64 0, .int .i64 0, .int .i64 0, .int .i64 0, .int .i64 0, .int .i64 0, .string ⟨#[]⟩] 58)
    have e : (w2.alloc (.cells #[.int .i64 0, .int .i64 0, .int .i64 0, .int .i64 0, .int .i64 0, .int .i64 0, .int .i64 0, .string ⟨#[]⟩, .string ⟨#[]⟩, .string ⟨#[]⟩, .int .i64 0, .int .i64 0, .slice none 0 0] 63)).heap.size = w2.heap.size + 1 := by simp
    rw [e] at this
    exact this
  have hVx : ((w2.alloc (.cells #[.int .i64 0, .int .i64 0, .int .i64 0, .int .i64 0, .int .i64 0, .int .i64 0, .int .i64 0, .string ⟨#[]⟩, .string ⟨#[]⟩, .string ⟨#[]⟩, .int .i64 0, .int .i64 0, .slice none 0 0] 63)).alloc (.cells #[.int .i64 0, .int .i64 0, .int .i64 0, .int .i64 0, .int .i64 0, .int .i64 0, .int .i64 0, .int .i64 0, .int .i64 0, .string ⟨#[]⟩] 58)).heap[w1.heap.size]? = some (.cells #[.int .i64 0, .int .i64 0, .int .i64 0, .int .i64 0, .int .i64 0, .int .i64 0, .int .i64 0, .int .i64 0, .int .i64 0, .string ⟨#[]⟩] 58) := hV0; have hSx : ((w2.alloc (.cells #[.int .i64 0, .int .i64 0, .int .i64 0, .int .i64 0, .int .i64 0, .int .i64 0, .int .i64 0, .string ⟨#[]⟩, .string ⟨#[]⟩, .string ⟨#[]⟩, .int .i64 0, .int .i64 0, .slice none 0 0] 63)).alloc (.cells #[.int .i64 0, .int .i64 0, .int .i64 0, .int .i64 0, .int .i64 0, .int .i64 0, .int .i64 0, .int .i64 0, .int .i64 0, .string ⟨#[]⟩] 58)).heap[w2.heap.size]? = some (.cells #[.int .i64 0, .int .i64 0, .int .i64 0, .int .i64 0, .int .i64 0, .int .i64 0, .int .i64 0, .string ⟨#[]⟩, .string ⟨#[]⟩, .string ⟨#[]⟩, .int .i64 0, .int .i64 0, .slice none 0 0] 63) := hS0; have hWx : ((w2.alloc (.cells #[.int .i64 0, .int .i64 0, .int .i64 0, .int .i64 0, .int .i64 0, .int .i64 0, .int .i64 0, .string ⟨#[]⟩, .string ⟨#[]⟩, .string ⟨#[]⟩, .int .i64 0, .int .i64 0, .slice none 0 0] 63)).alloc (.cells #[.int .i64 0, .int .i64 0, .int .i64 0, .int .i64 0, .int .i64 0, .int .i64 0, .int .i64 0, .int .i64 0, .int .i64 0, .string ⟨#[]⟩] 58)).heap[w2.heap.size + 1]? = some (.cells #[.int .i64 0, .int .i64 0, .int .i64 0, .int .i64 0, .int .i64 0, .int .i64 0, .int .i64 0, .int .i64 0, .int .i64 0, .string ⟨#[]⟩] 58) := hW0
  have hBx : Below w.heap.size w ((w2.alloc (.cells #[.int .i64 0, .int .i64 0, .int .i64 0, .int .i64 0, .int .i64 0, .int .i64 0, .int .i64 0, .string ⟨#[]⟩, .string ⟨#[]⟩, .string ⟨#[]⟩, .int .i64 0, .int .i64 0, .slice none 0 0] 63)).alloc (.cells #[.int .i64 0, .int .i64 0, .int .i64 0, .int .i64 0, .int .i64 0, .int .i64 0, .int .i64 0, .int .i64 0, .int .i64 0, .string ⟨#[]⟩] 58)) := ((below_tr (hb1.alloc hb1.size _) hb2).alloc (by have := hb1.size; omega) _).alloc (by have := hb1.size; simp; omega) _
  skip
  have hlt : w2.heap.size + 1 < ((w2.alloc (.cells #[.int .i64 0, .int .i64 0, .int .i64 0, .int .i64 0, .int .i64 0, .int .i64 0, .int .i64 0, .string ⟨#[]⟩, .string ⟨#[]⟩, .string ⟨#[]⟩, .int .i64 0, .int .i64 0, .slice none 0 0] 63)).alloc (.cells #[.int .i64 0, .int .i64 0, .int .i64 0, .int .i64 0, .int .i64 0, .int .i64 0, .int .i64 0, .int .i64 0, .int .i64 0, .string ⟨#[]⟩] 58)).heap.size := by simp
  generalize ((w2.alloc (.cells #[.int .i64 0, .int .i64 0, .int .i64 0, .int .i64 0, .int .i64 0, .int .i64 0, .int .i64 0, .string ⟨#[]⟩, .string ⟨#[]⟩, .string ⟨#[]⟩, .int .i64 0, .int .i64 0, .slice none 0 0] 63)).alloc (.cells #[.int .i64 0, .int .i64 0, .int .i64 0, .int .i64 0, .int .i64 0, .int .i64 0, .int .i64 0, .int .i64 0, .int .i64 0, .string ⟨#[]⟩] 58)) = wx at hVx hSx hWx hBx hlt ⊢
  have HVx := hid hVx; have HWx := hid hWx; have HBx := hid hBx; obtain ⟨k0, k1, k2, k3, k4, k5, k6, k7, k8, k9, k10, k11, k12⟩ := cells13 hSx; clear hV2 hS2 hV0 hS0 hW0 hVx hSx hWx hBx hb1 hb2
  go_upto_region 10 with (first | (go_at_call 35; (with_reducible refine (c3 _).mono ?_); go_loud (rintro e w3 ⟨rfl, hb3⟩); go_loud (have hW3 := (hb3.block (w2.heap.size + 1) hlt).trans HWx.out); go_loud (have hV3 := (hb3.block w1.heap.size (by omega)).trans HVx.out); have q9 : w3.cell? ⟨w2.heap.size + 1, 9, none⟩ = some (.string ⟨#[]⟩) := cell_of_row w3 _ 9 _ _ _ hW3; have fW : ∀ j, w3.frozen? ⟨w2.heap.size + 1, j, none⟩ = false := fun j => frozen_of_row w3 _ j _ _ hW3; have HW3 := hid hW3; have HV3 := hid hV3; have HB3 : Hid (Below w.heap.size w w3) := below_tr HBx.out hb3; clear hW3 hV3 hb3))
  have hW4 : (w3.setCell ⟨w2.heap.size + 1, 9, none⟩ (.string ⟨#[]⟩)).heap[w2.heap.size + 1]? = some (.cells #[.int .i64 0, .int .i64 0, .int .i64 0, .int .i64 0, .int .i64 0, .int .i64 0, .int .i64 0, .int .i64 0, .int .i64 0, .string ⟨#[]⟩] 58) := heap_setCell_same _ _ _ _ _ _ HW3.out
  have hV4 := (heap_setCell_other w3 ⟨w2.heap.size + 1, 9, none⟩ (w1.heap.size) (.string ⟨#[]⟩) (by show w1.heap.size ≠ w2.heap.size + 1; omega)).trans HV3.out
  have hB4 : Below w.heap.size w (w3.setCell ⟨w2.heap.size + 1, 9, none⟩ (.string ⟨#[]⟩)) := HB3.out.setCell (by show w.heap.size ≤ w2.heap.size + 1; omega) _
  generalize (w3.setCell ⟨w2.heap.size + 1, 9, none⟩ (.string ⟨#[]⟩)) = wz at hW4 hV4 hB4 ⊢
  have HB4 := hid hB4; obtain ⟨u0, u1, u2, u3, u4, u5, u6, u7, u8, u9⟩ := cells10 hV4; obtain ⟨y0, y1, y2, y3, y4, y5, y6, y7, y8, y9⟩ := cells10 hW4; clear hW4 hV4 hB4; go_wp2; go_ret; exact ⟨rfl, HB4.out⟩
theorem looked_good (d : ByteArray) (w : World) (hd : d.size ≤ maxLen) (h : openErr d.data.toList = 0) :
    Calls Tryz.prog 10 #[.string d] w fun e w' => e = .returned (.bool true) ∧ Below w.heap.size w w' := by
  obtain ⟨kk, hg⟩ := open_good _ h; obtain ⟨gl, gk⟩ := good_lawQ hg; have hsec := gl.sec; have hck := hg.kept; have hcc := hg.cap
  have c1 := fun w => look_any d w hd
  rw [lookV, if_pos h, h] at c1
  have c2 : ∀ w, Calls Tryz.prog 33 #[.string d] w fun e w' => (∃ (a : Option Addr) (n c : Nat), e = .returned (.tuple #[.agg (stCells (heldS d.data.toList) (.slice a n c)), .int .i64 (liveL d.data.toList : Int), .int .i64 0]) ∧ w'.ownsRow w.heap.size 119 3 (.slice a n c) (heldS d.data.toList).kept.length (entsCells (heldS d.data.toList).kept)) ∧ Below w.heap.size w w' := by
    intro w
    refine (refOpen_any d w hd).mono ?_
    rintro e w' ⟨q, hb⟩
    rcases q with ⟨_, q⟩ | ⟨q, _⟩
    · exact ⟨q, hb⟩
    · exact absurd h q
  have c3 := fun v w hv => refKept_any (heldS d.data.toList) v w (by omega) hg.ok.keys hv
  have c4 : ∀ w, Calls Tryz.prog 34 #[.int .i64 ((heldS d.data.toList).secret : Int)] w fun e w' => e = .returned (.tuple #[.int .i64 (pwN 7 (heldS d.data.toList).secret : Int), .int .i64 0]) ∧ w' = w := by
    intro w
    have := refPublic_any ((heldS d.data.toList).secret : Int) w
    rw [shOut, if_pos ⟨hsec, by unfold Pub; omega⟩, shErr, if_pos ⟨hsec, by unfold Pub; omega⟩, pw, Int.toNat_natCast] at this
    exact this
  unfold viewCells at c1
  unfold stCells at c2 c3
  generalize heldS d.data.toList = ss at *
  generalize liveL d.data.toList = lv at *
  generalize pwN 7 ss.secret = pn at *
  generalize str (lettersL ss.kept) = lt at *
  clear h hg gl gk hsec hck hcc; have kq := view_eql; have kg := Tryz.viewGuard
  go_enter Tryz.func10, Tryz.ntmps10
  go_upto_region 9 with (first | (go_at_call 32; with_reducible refine (c1 _).mono ?_; rintro e w1 ⟨rfl, hb1⟩) | (go_at_call 33; with_reducible refine (c2 _).mono ?_; rintro e w2 ⟨⟨aa, nn, cc, rfl, hown⟩, hb2⟩) | (go_at_call 34; with_reducible refine (c4 _).mono ?_; rintro e w' ⟨rfl, hw⟩; rw [hw]; clear hw w') | go_in)
  have hsz2 := hb2.size; have hsz1 := hb1.size
  simp at hsz2
  have hV2 := (hb2.block w1.heap.size (by simp)).trans (heap_alloc_new w1 _)
  have hS2 := heap_alloc_new w2 (.cells #[.int .i64 ss.role, .int .i64 ss.step, .int .i64 ss.sent, .int .i64 ss.got, .int .i64 ss.prev, .int .i64 ss.skip, .int .i64 ss.cap, .string (str ss.root), .string (str ss.out), .string (str ss.inn), .int .i64 ss.secret, .int .i64 ss.peer, .slice aa nn cc] 63)
  have hV0 : ((w2.alloc (.cells #[.int .i64 ss.role, .int .i64 ss.step, .int .i64 ss.sent, .int .i64 ss.got, .int .i64 ss.prev, .int .i64 ss.skip, .int .i64 ss.cap, .string (str ss.root), .string (str ss.out), .string (str ss.inn), .int .i64 ss.secret, .int .i64 ss.peer, .slice aa nn cc] 63)).alloc (.cells #[.int .i64 ss.role, .int .i64 ss.step, .int .i64 ss.sent, .int .i64 ss.got, .int .i64 ss.prev, .int .i64 ss.skip, .int .i64 ss.cap, .int .i64 pn, .int .i64 ss.peer, .string ⟨#[]⟩] 58)).heap[w1.heap.size]? = some (.cells #[.int .i64 ss.role, .int .i64 ss.step, .int .i64 ss.sent, .int .i64 ss.got, .int .i64 ss.prev, .int .i64 ss.skip, .int .i64 ss.cap, .int .i64 pn, .int .i64 ss.peer, .string lt] 58) := ((Below.heap_alloc _ _ _ (by simp; omega)).trans (Below.heap_alloc _ _ _ (by omega))).trans hV2
  have hS0 : ((w2.alloc (.cells #[.int .i64 ss.role, .int .i64 ss.step, .int .i64 ss.sent, .int .i64 ss.got, .int .i64 ss.prev, .int .i64 ss.skip, .int .i64 ss.cap, .string (str ss.root), .string (str ss.out), .string (str ss.inn), .int .i64 ss.secret, .int .i64 ss.peer, .slice aa nn cc] 63)).alloc (.cells #[.int .i64 ss.role, .int .i64 ss.step, .int .i64 ss.sent, .int .i64 ss.got, .int .i64 ss.prev, .int .i64 ss.skip, .int .i64 ss.cap, .int .i64 pn, .int .i64 ss.peer, .string ⟨#[]⟩] 58)).heap[w2.heap.size]? = some (.cells #[.int .i64 ss.role, .int .i64 ss.step, .int .i64 ss.sent, .int .i64 ss.got, .int .i64 ss.prev, .int .i64 ss.skip, .int .i64 ss.cap, .string (str ss.root), .string (str ss.out), .string (str ss.inn), .int .i64 ss.secret, .int .i64 ss.peer, .slice aa nn cc] 63) := (Below.heap_alloc _ _ _ (by simp)).trans hS2
  have hW0 : ((w2.alloc (.cells #[.int .i64 ss.role, .int .i64 ss.step, .int .i64 ss.sent, .int .i64 ss.got, .int .i64 ss.prev, .int .i64 ss.skip, .int .i64 ss.cap, .string (str ss.root), .string (str ss.out), .string (str ss.inn), .int .i64 ss.secret, .int .i64 ss.peer, .slice aa nn cc] 63)).alloc (.cells #[.int .i64 ss.role, .int .i64 ss.step, .int .i64 ss.sent, .int .i64 ss.got, .int .i64 ss.prev, .int .i64 ss.skip, .int .i64 ss.cap, .int .i64 pn, .int .i64 ss.peer, .string ⟨#[]⟩] 58)).heap[w2.heap.size + 1]? = some (.cells #[.int .i64 ss.role, .int .i64 ss.step, .int .i64 ss.sent, .int .i64 ss.got, .int .i64 ss.prev, .int .i64 ss.skip, .int .i64 ss.cap, .int .i64 pn, .int .i64 ss.peer, .string ⟨#[]⟩] 58) := by
    have := heap_alloc_new (w2.alloc (.cells #[.int .i64 ss.role, .int .i64 ss.step, .int .i64 ss.sent, .int .i64 ss.got, .int .i64 ss.prev, .int .i64 ss.skip, .int .i64 ss.cap, .string (str ss.root), .string (str ss.out), .string (str ss.inn), .int .i64 ss.secret, .int .i64 ss.peer, .slice aa nn cc] 63)) (.cells #[.int .i64 ss.role, .int .i64 ss.step, .int .i64 ss.sent, .int .i64 ss.got, .int .i64 ss.prev, .int .i64 ss.skip, .int .i64 ss.cap, .int .i64 pn, .int .i64 ss.peer, .string ⟨#[]⟩] 58)
    have e : (w2.alloc (.cells #[.int .i64 ss.role, .int .i64 ss.step, .int .i64 ss.sent, .int .i64 ss.got, .int .i64 ss.prev, .int .i64 ss.skip, .int .i64 ss.cap, .string (str ss.root), .string (str ss.out), .string (str ss.inn), .int .i64 ss.secret, .int .i64 ss.peer, .slice aa nn cc] 63)).heap.size = w2.heap.size + 1 := by simp
    rw [e] at this
    exact this
  have hVx : ((w2.alloc (.cells #[.int .i64 ss.role, .int .i64 ss.step, .int .i64 ss.sent, .int .i64 ss.got, .int .i64 ss.prev, .int .i64 ss.skip, .int .i64 ss.cap, .string (str ss.root), .string (str ss.out), .string (str ss.inn), .int .i64 ss.secret, .int .i64 ss.peer, .slice aa nn cc] 63)).alloc (.cells #[.int .i64 ss.role, .int .i64 ss.step, .int .i64 ss.sent, .int .i64 ss.got, .int .i64 ss.prev, .int .i64 ss.skip, .int .i64 ss.cap, .int .i64 pn, .int .i64 ss.peer, .string ⟨#[]⟩] 58)).heap[w1.heap.size]? = some (.cells #[.int .i64 ss.role, .int .i64 ss.step, .int .i64 ss.sent, .int .i64 ss.got, .int .i64 ss.prev, .int .i64 ss.skip, .int .i64 ss.cap, .int .i64 pn, .int .i64 ss.peer, .string lt] 58) := hV0; have hSx : ((w2.alloc (.cells #[.int .i64 ss.role, .int .i64 ss.step, .int .i64 ss.sent, .int .i64 ss.got, .int .i64 ss.prev, .int .i64 ss.skip, .int .i64 ss.cap, .string (str ss.root), .string (str ss.out), .string (str ss.inn), .int .i64 ss.secret, .int .i64 ss.peer, .slice aa nn cc] 63)).alloc (.cells #[.int .i64 ss.role, .int .i64 ss.step, .int .i64 ss.sent, .int .i64 ss.got, .int .i64 ss.prev, .int .i64 ss.skip, .int .i64 ss.cap, .int .i64 pn, .int .i64 ss.peer, .string ⟨#[]⟩] 58)).heap[w2.heap.size]? = some (.cells #[.int .i64 ss.role, .int .i64 ss.step, .int .i64 ss.sent, .int .i64 ss.got, .int .i64 ss.prev, .int .i64 ss.skip, .int .i64 ss.cap, .string (str ss.root), .string (str ss.out), .string (str ss.inn), .int .i64 ss.secret, .int .i64 ss.peer, .slice aa nn cc] 63) := hS0; have hWx : ((w2.alloc (.cells #[.int .i64 ss.role, .int .i64 ss.step, .int .i64 ss.sent, .int .i64 ss.got, .int .i64 ss.prev, .int .i64 ss.skip, .int .i64 ss.cap, .string (str ss.root), .string (str ss.out), .string (str ss.inn), .int .i64 ss.secret, .int .i64 ss.peer, .slice aa nn cc] 63)).alloc (.cells #[.int .i64 ss.role, .int .i64 ss.step, .int .i64 ss.sent, .int .i64 ss.got, .int .i64 ss.prev, .int .i64 ss.skip, .int .i64 ss.cap, .int .i64 pn, .int .i64 ss.peer, .string ⟨#[]⟩] 58)).heap[w2.heap.size + 1]? = some (.cells #[.int .i64 ss.role, .int .i64 ss.step, .int .i64 ss.sent, .int .i64 ss.got, .int .i64 ss.prev, .int .i64 ss.skip, .int .i64 ss.cap, .int .i64 pn, .int .i64 ss.peer, .string ⟨#[]⟩] 58) := hW0
  have hBx : Below w.heap.size w ((w2.alloc (.cells #[.int .i64 ss.role, .int .i64 ss.step, .int .i64 ss.sent, .int .i64 ss.got, .int .i64 ss.prev, .int .i64 ss.skip, .int .i64 ss.cap, .string (str ss.root), .string (str ss.out), .string (str ss.inn), .int .i64 ss.secret, .int .i64 ss.peer, .slice aa nn cc] 63)).alloc (.cells #[.int .i64 ss.role, .int .i64 ss.step, .int .i64 ss.sent, .int .i64 ss.got, .int .i64 ss.prev, .int .i64 ss.skip, .int .i64 ss.cap, .int .i64 pn, .int .i64 ss.peer, .string ⟨#[]⟩] 58)) := ((below_tr (hb1.alloc hb1.size _) hb2).alloc (by have := hb1.size; omega) _).alloc (by have := hb1.size; simp; omega) _
  have hEx : EntsAt ((w2.alloc (.cells #[.int .i64 ss.role, .int .i64 ss.step, .int .i64 ss.sent, .int .i64 ss.got, .int .i64 ss.prev, .int .i64 ss.skip, .int .i64 ss.cap, .string (str ss.root), .string (str ss.out), .string (str ss.inn), .int .i64 ss.secret, .int .i64 ss.peer, .slice aa nn cc] 63)).alloc (.cells #[.int .i64 ss.role, .int .i64 ss.step, .int .i64 ss.sent, .int .i64 ss.got, .int .i64 ss.prev, .int .i64 ss.skip, .int .i64 ss.cap, .int .i64 pn, .int .i64 ss.peer, .string ⟨#[]⟩] 58)) (.slice aa nn cc) ss.kept := EntsAt.of_own ((hown.alloc _).alloc _)
  have hlt : w2.heap.size + 1 < ((w2.alloc (.cells #[.int .i64 ss.role, .int .i64 ss.step, .int .i64 ss.sent, .int .i64 ss.got, .int .i64 ss.prev, .int .i64 ss.skip, .int .i64 ss.cap, .string (str ss.root), .string (str ss.out), .string (str ss.inn), .int .i64 ss.secret, .int .i64 ss.peer, .slice aa nn cc] 63)).alloc (.cells #[.int .i64 ss.role, .int .i64 ss.step, .int .i64 ss.sent, .int .i64 ss.got, .int .i64 ss.prev, .int .i64 ss.skip, .int .i64 ss.cap, .int .i64 pn, .int .i64 ss.peer, .string ⟨#[]⟩] 58)).heap.size := by simp
  generalize ((w2.alloc (.cells #[.int .i64 ss.role, .int .i64 ss.step, .int .i64 ss.sent, .int .i64 ss.got, .int .i64 ss.prev, .int .i64 ss.skip, .int .i64 ss.cap, .string (str ss.root), .string (str ss.out), .string (str ss.inn), .int .i64 ss.secret, .int .i64 ss.peer, .slice aa nn cc] 63)).alloc (.cells #[.int .i64 ss.role, .int .i64 ss.step, .int .i64 ss.sent, .int .i64 ss.got, .int .i64 ss.prev, .int .i64 ss.skip, .int .i64 ss.cap, .int .i64 pn, .int .i64 ss.peer, .string ⟨#[]⟩] 58)) = wx at hVx hSx hWx hBx hlt hEx ⊢
  have HVx := hid hVx; have HWx := hid hWx; have HBx := hid hBx; obtain ⟨k0, k1, k2, k3, k4, k5, k6, k7, k8, k9, k10, k11, k12⟩ := cells13 hSx; clear hV2 hS2 hV0 hS0 hW0 hVx hSx hWx hBx hb1 hb2
  go_upto_region 10 with (first | (go_at_call 35; (with_reducible refine (c3 _ _ hEx).mono ?_); go_loud (rintro e w3 ⟨rfl, hb3⟩); go_loud (have hW3 := (hb3.block (w2.heap.size + 1) hlt).trans HWx.out); go_loud (have hV3 := (hb3.block w1.heap.size (by omega)).trans HVx.out); have q9 : w3.cell? ⟨w2.heap.size + 1, 9, none⟩ = some (.string ⟨#[]⟩) := cell_of_row w3 _ 9 _ _ _ hW3; have fW : ∀ j, w3.frozen? ⟨w2.heap.size + 1, j, none⟩ = false := fun j => frozen_of_row w3 _ j _ _ hW3; have HW3 := hid hW3; have HV3 := hid hV3; have HB3 : Hid (Below w.heap.size w w3) := below_tr HBx.out hb3; clear hW3 hV3 hb3))
  have hW4 : (w3.setCell ⟨w2.heap.size + 1, 9, none⟩ (.string lt)).heap[w2.heap.size + 1]? = some (.cells #[.int .i64 ss.role, .int .i64 ss.step, .int .i64 ss.sent, .int .i64 ss.got, .int .i64 ss.prev, .int .i64 ss.skip, .int .i64 ss.cap, .int .i64 pn, .int .i64 ss.peer, .string lt] 58) := heap_setCell_same _ _ _ _ _ _ HW3.out
  have hV4 := (heap_setCell_other w3 ⟨w2.heap.size + 1, 9, none⟩ (w1.heap.size) (.string lt) (by show w1.heap.size ≠ w2.heap.size + 1; omega)).trans HV3.out
  have hB4 : Below w.heap.size w (w3.setCell ⟨w2.heap.size + 1, 9, none⟩ (.string lt)) := HB3.out.setCell (by show w.heap.size ≤ w2.heap.size + 1; omega) _
  generalize (w3.setCell ⟨w2.heap.size + 1, 9, none⟩ (.string lt)) = wz at hW4 hV4 hB4 ⊢
  have HB4 := hid hB4; obtain ⟨u0, u1, u2, u3, u4, u5, u6, u7, u8, u9⟩ := cells10 hV4; obtain ⟨y0, y1, y2, y3, y4, y5, y6, y7, y8, y9⟩ := cells10 hW4; clear hW4 hV4 hB4; go_wp2; go_ret; exact ⟨rfl, HB4.out⟩
theorem looked_any (d : ByteArray) (w : World) (hd : d.size ≤ maxLen) :
    Calls Tryz.prog 10 #[.string d] w fun e w' => e = .returned (.bool true) ∧ Below w.heap.size w w' := by
  by_cases h : openErr d.data.toList = 0
  · exact looked_good d w hd h
  · exact looked_err d w hd h
theorem repairR_bd (d : List UInt8) : 0 ≤ (repairR d).2 ∧ (repairR d).2 ≤ 12 := by
  rw [repairR]; repeat' split
  all_goals simp
theorem changesL_length (a b : List UInt8) (lo hi : Nat) : (changesL a b lo hi).length ≤ (hi - lo) * 33 + 1 := by
  have := chgB_length a b lo (hi - lo)
  rw [changesL]; split
  · simp
  · rw [List.length_append]; simp; omega
theorem looks_walk (a0 : ByteArray) (a1 : Int) (a2 : ByteArray) (w0 : a0.size ≤ maxLen) (w1 : (Lit.int .i64 a1).wf = true) (w2 : a2.size ≤ maxLen) (w : World) :
    Calls Tryz.prog 26 #[.string a0, .int .i64 a1, .string a2] w fun e w' => e = .returned (.bool true) ∧ Below w.heap.size w w' := by
  have w1' : -9223372036854775808 ≤ a1 ∧ a1 ≤ 9223372036854775807 := by
    simp [Lit.wf, IntKind.min, IntKind.max, IntKind.signed, IntKind.bits] at w1
    omega
  obtain ⟨n0, n1⟩ := w1'; obtain ⟨e0, e1⟩ := repairR_bd a0.data.toList
  have c1 := fun w => looked_any a0 w w0
  have c2 := fun w => pawlRecover_any a0 w w0
  have c3 := fun w => repair_any a0 w w0
  by_cases hok : (repairR a0.data.toList).2 = 0
  · have hD : isDiskL a0.data.toList = true := by
      cases hD : isDiskL a0.data.toList with
      | true => rfl
      | false => rw [repairR, if_neg (by rw [hD]; simp)] at hok; simp at hok
    obtain ⟨k, hk, hk1, hk2⟩ := disk_factsD hD; have hdl := len_list a0
    have hplan : recPlan a0.data.toList = encL (changesR a0.data.toList (repairR a0.data.toList).1 0 k) := by
      rw [recPlan, if_pos hok, hdl, hk, show k * 32 / 32 = k by omega, changesL_enc]
    have hrp : repairR a0.data.toList = ((repairR a0.data.toList).1, 0) := by rw [← hok]
    obtain ⟨r1, r2, r3⟩ := rec_safe a0.data.toList (repairR a0.data.toList).1 k (by rw [hdl, hk]) hk1 hk2 hrp
    have hps : (str (encL (changesR a0.data.toList (repairR a0.data.toList).1 0 k))).size ≤ maxLen := by
      rw [str_size, ← changesL_enc]
      have := changesL_length a0.data.toList (repairR a0.data.toList).1 0 k
      unfold maxLen; omega
    have c5 := fun w => safe_any a0 (str (repairR a0.data.toList).1) (str (repairR a0.data.toList).1) (str (encL (changesR a0.data.toList (repairR a0.data.toList).1 0 k))) (changesR a0.data.toList (repairR a0.data.toList).1 0 k) k a1 a2 w hD hk hk2 hps (by rw [str_toList]; exact r1) n0 n1 w2 (by rw [str_toList]; exact r2) (by rw [str_toList]; exact fun m kq hm => .inl (r3 m kq hm))
    rw [hplan, hok] at c2
    rw [hok] at c3
    generalize str (encL (changesR a0.data.toList (repairR a0.data.toList).1 0 k)) = pl at *
    generalize str (repairR a0.data.toList).1 = tt at *
    clear r1 r2 r3 hplan hok hrp hD hps e0 e1
    go_enter Tryz.func26, Tryz.ntmps26
    go_wp2_with (first | (go_at_call 10; with_reducible refine (c1 _).mono ?_; rintro e x0 ⟨rfl, hb0⟩) | (go_at_call 27; with_reducible refine (c2 _).mono ?_; rintro e x1 ⟨rfl, hb1⟩) | (go_at_call 63; with_reducible refine (c3 _).mono ?_; rintro e x2 ⟨rfl, hb2⟩) | (go_at_call 52; with_reducible refine (c5 _).mono ?_; rintro e x3 ⟨rfl, hb3⟩) | go_in)
    go_ret; exact ⟨rfl, below_tr (below_tr (below_tr hb0 hb1) hb2) hb3⟩
  · have hp : recPlan a0.data.toList = [] := by rw [recPlan, if_neg hok]
    rw [hp] at c2
    generalize str (repairR a0.data.toList).1 = tt at *
    generalize (repairR a0.data.toList).2 = E at *
    have hokB : (E == 0) = false := by rw [beq_eq_false_iff_ne]; exact hok
    have c2' : ∀ w, Calls Tryz.prog 27 #[.string a0] w fun e w' => e = .returned (.tuple #[.string ⟨#[]⟩, .int .i64 E]) ∧ Below w.heap.size w w' := c2
    clear hp c2
    go_enter Tryz.func26, Tryz.ntmps26
    go_wp2_with (first | (go_at_call 10; with_reducible refine (c1 _).mono ?_; rintro e x0 ⟨rfl, hb0⟩) | (go_at_call 27; with_reducible refine (c2' _).mono ?_; rintro e x1 ⟨rfl, hb1⟩) | (go_at_call 63; with_reducible refine (c3 _).mono ?_; rintro e x2 ⟨rfl, hb2⟩) | go_in)
    go_ret; exact ⟨rfl, below_tr (below_tr hb0 hb1) hb2⟩
end Go.Proofs.YtabpkohcimiceabGreat
