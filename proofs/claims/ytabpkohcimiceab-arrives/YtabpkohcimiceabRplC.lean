import Derived.Test.YtabpkohcimiceabLaw
namespace Go.Proofs.Ytabpkohcimiceab
set_option maxRecDepth 100000
set_option maxHeartbeats 1000000
open Go.RowKit
set_option linter.unusedVariables false
theorem sideCh_zero (d x : ByteArray) (k cap : Nat) (w : World) (hd : d.size = k * 32) (hx : x.size = k * 32) (hk : k ≤ 40) (hcap : cap ≤ 30) (hn : 1 + 2 * halfN cap ≤ k) :
    Calls Try.prog 60 #[.string d, .string x, .int .i64 cap, .int .i64 0] w fun e w' => e = .returned (.string (str (changesL d.data.toList x.data.toList 1 (1 + halfN cap)))) ∧ Below w.heap.size w w' := by
  have c1 := fun w => sideSize_any cap w (by omega)
  have c2 := fun w => changes_any d x k 1 (1 + (halfN cap : Int)) w hd hx hk (by omega) (by omega) (by omega)
  rw [show (1 : Int).toNat = 1 from rfl, show (1 + (halfN cap : Int)).toNat = 1 + halfN cap by omega] at c2
  have hh := (halfN_le cap hcap).1
  generalize str (changesL d.data.toList x.data.toList 1 (1 + halfN cap)) = pl at *
  generalize halfN cap = hf at *
  go_enter Try.func60, Try.ntmps60
  go_wp2_with (first | (go_at_call 86; with_reducible refine (c1 _).mono ?_; rintro e w' ⟨rfl, hw⟩; rw [hw]; clear hw w') | (go_at_call 61; (with_reducible refine (c2 _).mono ?_); rintro e w2 ⟨rfl, hb2⟩))
  go_ret; exact ⟨rfl, hb2⟩
theorem sideCh_one (d x : ByteArray) (k cap : Nat) (w : World) (hd : d.size = k * 32) (hx : x.size = k * 32) (hk : k ≤ 40) (hcap : cap ≤ 30) (hn : 1 + 2 * halfN cap ≤ k) :
    Calls Try.prog 60 #[.string d, .string x, .int .i64 cap, .int .i64 1] w fun e w' => e = .returned (.string (str (changesL d.data.toList x.data.toList (1 + halfN cap) (1 + halfN cap + halfN cap)))) ∧ Below w.heap.size w w' := by
  have c1 := fun w => sideSize_any cap w (by omega)
  have c2 := fun w => changes_any d x k (1 + (halfN cap : Int)) (1 + (halfN cap : Int) + (halfN cap : Int)) w hd hx hk (by omega) (by omega) (by omega)
  rw [show (1 + (halfN cap : Int)).toNat = 1 + halfN cap by omega, show (1 + (halfN cap : Int) + (halfN cap : Int)).toNat = 1 + halfN cap + halfN cap by omega] at c2
  have hh := (halfN_le cap hcap).1
  generalize str (changesL d.data.toList x.data.toList (1 + halfN cap) (1 + halfN cap + halfN cap)) = pl at *
  generalize halfN cap = hf at *
  go_enter Try.func60, Try.ntmps60
  go_wp2_with (first | (go_at_call 86; with_reducible refine (c1 _).mono ?_; rintro e w' ⟨rfl, hw⟩; rw [hw]; clear hw w') | (go_at_call 61; (with_reducible refine (c2 _).mono ?_); rintro e w2 ⟨rfl, hb2⟩))
  go_ret; exact ⟨rfl, hb2⟩
theorem changesL_len (a b : List UInt8) (lo hi : Nat) : (changesL a b lo hi).length ≤ (hi - lo) * 33 + 1 := by
  have := chgB_length a b lo (hi - lo)
  rw [changesL]; split
  · simp
  · rw [List.length_append]; simp; omega
theorem replace_0 (d : ByteArray) (k : Nat) (so : Int) (rp : ByteArray) (ss : StM) (aa : Option Addr) (nn cc : Nat) (s2 : StM) (a2 : Option Addr) (n2 c2 : Nat) (w : World) (hd : d.size = k * 32) (hk : k ≤ 40) (h2 : StOk s2) (hk2 : s2.kept.length ≤ s2.cap) (hc : s2.cap ≤ 30) (hn : 1 + 2 * halfN s2.cap ≤ k) (hv : EntsAt w (.slice a2 n2 c2) s2.kept) :
    Calls Try.prog 39 #[.string d, .agg #[.int .i64 so, .string rp, .int .i64 0, .int .i64 ss.role, .int .i64 ss.step, .int .i64 ss.sent, .int .i64 ss.got, .int .i64 ss.prev, .int .i64 ss.skip, .int .i64 ss.cap, .string (str ss.root), .string (str ss.out), .string (str ss.inn), .int .i64 ss.secret, .int .i64 ss.peer, .slice aa nn cc], .agg #[.int .i64 s2.role, .int .i64 s2.step, .int .i64 s2.sent, .int .i64 s2.got, .int .i64 s2.prev, .int .i64 s2.skip, .int .i64 s2.cap, .string (str s2.root), .string (str s2.out), .string (str s2.inn), .int .i64 s2.secret, .int .i64 s2.peer, .slice a2 n2 c2]] w fun e w' => e = .returned (.string (str (encL (rplR d.data.toList (packL s2 1 (k * 32)) s2.cap 0)))) ∧ Below w.heap.size w w' := by
  have hxl := packL_length s2 1 k h2 hk2 (by omega) hn
  obtain ⟨xx, hxx⟩ : ∃ x, x = str (packL s2 1 (k * 32)) := ⟨_, rfl⟩
  have hxs : xx.size = k * 32 := by rw [hxx, str_size]; exact hxl
  have hxd : xx.data.toList = packL s2 1 (k * 32) := by rw [hxx, str_toList]
  have cs := fun w => sectors_any d k w (by unfold maxLen; omega) hd
  have cl : ∀ w, EntsAt w (.slice a2 n2 c2) s2.kept → Calls Try.prog 58 #[.agg #[.int .i64 s2.role, .int .i64 s2.step, .int .i64 s2.sent, .int .i64 s2.got, .int .i64 s2.prev, .int .i64 s2.skip, .int .i64 s2.cap, .string (str s2.root), .string (str s2.out), .string (str s2.inn), .int .i64 s2.secret, .int .i64 s2.peer, .slice a2 n2 c2], .int .i64 1, .int .i64 k] w fun e w' => e = .returned (.string xx) ∧ Below w.heap.size w w' := fun w h => by
    rw [hxx]; exact lay_any s2 (.slice a2 n2 c2) 1 k w h2 hk2 hc h (by omega) hk
  have cf := fun w => sideCh_one d xx k s2.cap w hd hxs hk hc hn
  have c0 := fun w => changes_any d xx k 0 1 w hd hxs hk (by omega) (by omega) (by have := hn; omega)
  have ct := fun w => sideCh_zero d xx k s2.cap w hd hxs hk hc hn
  rw [show (0 : Int).toNat = 0 from rfl, show (1 : Int).toNat = 1 from rfl] at c0
  have hh := (halfN_le s2.cap hc).1
  have hE : Hid (str (encL (rplR d.data.toList (packL s2 1 (k * 32)) s2.cap 0)) = str (changesL d.data.toList xx.data.toList (1 + halfN s2.cap) (1 + halfN s2.cap + halfN s2.cap)) ++ str (changesL d.data.toList xx.data.toList 0 1) ++ str (changesL d.data.toList xx.data.toList 1 (1 + halfN s2.cap))) := by
    show _ = _
    rw [hxd, str_append, str_append, rplR, threeR, encL_append, encL_append, ← changesL_enc, ← changesL_enc, ← changesL_enc]
    simp only [Nat.sub_zero, Nat.zero_mul, Nat.one_mul, Nat.add_zero]
  have z1 := changesL_len d.data.toList xx.data.toList 1 (1 + halfN s2.cap); have z2 := changesL_len d.data.toList xx.data.toList 0 1; have z3 := changesL_len d.data.toList xx.data.toList (1 + halfN s2.cap) (1 + halfN s2.cap + halfN s2.cap)
  have y1 : (str (changesL d.data.toList xx.data.toList 1 (1 + halfN s2.cap))).size ≤ 1000 := by rw [str_size]; omega
  have y2 : (str (changesL d.data.toList xx.data.toList 0 1)).size ≤ 1000 := by rw [str_size]; omega
  have y3 : (str (changesL d.data.toList xx.data.toList (1 + halfN s2.cap) (1 + halfN s2.cap + halfN s2.cap))).size ≤ 1000 := by rw [str_size]; omega
  rw [hE.out]; clear z1 z2 z3 hE hxd hxs hxl hxx
  generalize str (changesL d.data.toList xx.data.toList 1 (1 + halfN s2.cap)) = p1 at *
  generalize str (changesL d.data.toList xx.data.toList 0 1) = p2 at *
  generalize str (changesL d.data.toList xx.data.toList (1 + halfN s2.cap) (1 + halfN s2.cap + halfN s2.cap)) = p3 at *
  clear hh hn h2 hk2 hc; have tok1 : True := trivial
  go_enter Try.func39, Try.ntmps39
  go_upto_region 1 with fail
  have hA : ((w.alloc (.cells #[.int .i64 so, .string rp, .int .i64 0, .int .i64 ss.role, .int .i64 ss.step, .int .i64 ss.sent, .int .i64 ss.got, .int .i64 ss.prev, .int .i64 ss.skip, .int .i64 ss.cap, .string (str ss.root), .string (str ss.out), .string (str ss.inn), .int .i64 ss.secret, .int .i64 ss.peer, .slice aa nn cc] 86)).alloc (.cells #[.int .i64 s2.role, .int .i64 s2.step, .int .i64 s2.sent, .int .i64 s2.got, .int .i64 s2.prev, .int .i64 s2.skip, .int .i64 s2.cap, .string (str s2.root), .string (str s2.out), .string (str s2.inn), .int .i64 s2.secret, .int .i64 s2.peer, .slice a2 n2 c2] 84)).heap[w.heap.size]? = some (.cells #[.int .i64 so, .string rp, .int .i64 0, .int .i64 ss.role, .int .i64 ss.step, .int .i64 ss.sent, .int .i64 ss.got, .int .i64 ss.prev, .int .i64 ss.skip, .int .i64 ss.cap, .string (str ss.root), .string (str ss.out), .string (str ss.inn), .int .i64 ss.secret, .int .i64 ss.peer, .slice aa nn cc] 86) := (Below.heap_alloc _ _ _ (by simp)).trans (heap_alloc_new w _)
  have hB : ((w.alloc (.cells #[.int .i64 so, .string rp, .int .i64 0, .int .i64 ss.role, .int .i64 ss.step, .int .i64 ss.sent, .int .i64 ss.got, .int .i64 ss.prev, .int .i64 ss.skip, .int .i64 ss.cap, .string (str ss.root), .string (str ss.out), .string (str ss.inn), .int .i64 ss.secret, .int .i64 ss.peer, .slice aa nn cc] 86)).alloc (.cells #[.int .i64 s2.role, .int .i64 s2.step, .int .i64 s2.sent, .int .i64 s2.got, .int .i64 s2.prev, .int .i64 s2.skip, .int .i64 s2.cap, .string (str s2.root), .string (str s2.out), .string (str s2.inn), .int .i64 s2.secret, .int .i64 s2.peer, .slice a2 n2 c2] 84)).heap[w.heap.size + 1]? = some (.cells #[.int .i64 s2.role, .int .i64 s2.step, .int .i64 s2.sent, .int .i64 s2.got, .int .i64 s2.prev, .int .i64 s2.skip, .int .i64 s2.cap, .string (str s2.root), .string (str s2.out), .string (str s2.inn), .int .i64 s2.secret, .int .i64 s2.peer, .slice a2 n2 c2] 84) := by
    have := heap_alloc_new (w.alloc (.cells #[.int .i64 so, .string rp, .int .i64 0, .int .i64 ss.role, .int .i64 ss.step, .int .i64 ss.sent, .int .i64 ss.got, .int .i64 ss.prev, .int .i64 ss.skip, .int .i64 ss.cap, .string (str ss.root), .string (str ss.out), .string (str ss.inn), .int .i64 ss.secret, .int .i64 ss.peer, .slice aa nn cc] 86)) (.cells #[.int .i64 s2.role, .int .i64 s2.step, .int .i64 s2.sent, .int .i64 s2.got, .int .i64 s2.prev, .int .i64 s2.skip, .int .i64 s2.cap, .string (str s2.root), .string (str s2.out), .string (str s2.inn), .int .i64 s2.secret, .int .i64 s2.peer, .slice a2 n2 c2] 84)
    simpa using this
  have hW : Below w.heap.size w ((w.alloc (.cells #[.int .i64 so, .string rp, .int .i64 0, .int .i64 ss.role, .int .i64 ss.step, .int .i64 ss.sent, .int .i64 ss.got, .int .i64 ss.prev, .int .i64 ss.skip, .int .i64 ss.cap, .string (str ss.root), .string (str ss.out), .string (str ss.inn), .int .i64 ss.secret, .int .i64 ss.peer, .slice aa nn cc] 86)).alloc (.cells #[.int .i64 s2.role, .int .i64 s2.step, .int .i64 s2.sent, .int .i64 s2.got, .int .i64 s2.prev, .int .i64 s2.skip, .int .i64 s2.cap, .string (str s2.root), .string (str s2.out), .string (str s2.inn), .int .i64 s2.secret, .int .i64 s2.peer, .slice a2 n2 c2] 84)) := ((Below.refl _ _).alloc (Nat.le_refl _) _).alloc (by simp) _
  have hlt : w.heap.size + 1 < ((w.alloc (.cells #[.int .i64 so, .string rp, .int .i64 0, .int .i64 ss.role, .int .i64 ss.step, .int .i64 ss.sent, .int .i64 ss.got, .int .i64 ss.prev, .int .i64 ss.skip, .int .i64 ss.cap, .string (str ss.root), .string (str ss.out), .string (str ss.inn), .int .i64 ss.secret, .int .i64 ss.peer, .slice aa nn cc] 86)).alloc (.cells #[.int .i64 s2.role, .int .i64 s2.step, .int .i64 s2.sent, .int .i64 s2.got, .int .i64 s2.prev, .int .i64 s2.skip, .int .i64 s2.cap, .string (str s2.root), .string (str s2.out), .string (str s2.inn), .int .i64 s2.secret, .int .i64 s2.peer, .slice a2 n2 c2] 84)).heap.size := by simp
  generalize ((w.alloc (.cells #[.int .i64 so, .string rp, .int .i64 0, .int .i64 ss.role, .int .i64 ss.step, .int .i64 ss.sent, .int .i64 ss.got, .int .i64 ss.prev, .int .i64 ss.skip, .int .i64 ss.cap, .string (str ss.root), .string (str ss.out), .string (str ss.inn), .int .i64 ss.secret, .int .i64 ss.peer, .slice aa nn cc] 86)).alloc (.cells #[.int .i64 s2.role, .int .i64 s2.step, .int .i64 s2.sent, .int .i64 s2.got, .int .i64 s2.prev, .int .i64 s2.skip, .int .i64 s2.cap, .string (str s2.root), .string (str s2.out), .string (str s2.inn), .int .i64 s2.secret, .int .i64 s2.peer, .slice a2 n2 c2] 84)) = wb at hA hB hW hlt ⊢
  have HV : Hid (EntsAt wb (.slice a2 n2 c2) s2.kept) := hv.next hW; have s2' : wb.cell? ⟨w.heap.size, 2, none⟩ = some (.int .i64 0) := cell_of_row wb _ 2 _ _ _ hA; obtain ⟨k0, k1, k2, k3, k4, k5, k6, k7, k8, k9, k10, k11, k12⟩ := cells13 hB; have HA := hid hA; have HB := hid hB; have HW := hid hW; clear hA hB hW hv
  go_upto_region 2 with fail
  go_cut [8] (fun t wx => t = .string xx ∧ Below wb.heap.size wb wx)
  case first =>
    go_region_with (first | (go_at_call 59; with_reducible refine (cs _).mono ?_; rintro e w' ⟨rfl, hw⟩; rw [hw]; clear hw w') | (go_at_call 58; with_reducible refine (cl _ (by first | exact HV.out | exact HV.out.next (Below.refl _ _).drew)).mono ?_; rintro e wz ⟨rfl, hbz⟩))
    all_goals (go_wp2_with fail)
    all_goals go_meet
    all_goals exact ⟨rfl, ⟨hbz.os, hbz.tape, hbz.output, hbz.size, hbz.block⟩⟩
  case rest =>
    obtain ⟨rfl, hb1⟩ := hcut
    have hA1 := (hb1.block w.heap.size (by omega)).trans HA.out
    have hB1 := (hb1.block (w.heap.size + 1) hlt).trans HB.out; have HW1 : Hid (Below w.heap.size w wc) := below_tr HW.out hb1; have hlt1 : w.heap.size + 1 < wc.heap.size := Nat.lt_of_lt_of_le hlt hb1.size; have s2c : wc.cell? ⟨w.heap.size, 2, none⟩ = some (.int .i64 0) := cell_of_row wc _ 2 _ _ _ hA1; have k6c : wc.cell? ⟨w.heap.size + 1, 6, none⟩ = some (.int .i64 s2.cap) := cell_of_row wc _ 6 _ _ _ hB1; clear k0 k1 k2 k3 k4 k5 k6 k7 k8 k9 k10 k11 k12 s2' hA1 hB1 HA HB HW HV cl cs
    go_wp2_with (first | (go_at_call 60; have _t := tok1; with_reducible refine (cf _).mono ?_; rintro e w2 ⟨rfl, hb2⟩; have s2d := (hb2.cell (p := ⟨w.heap.size, 2, none⟩) (by show w.heap.size < _; omega)).trans s2c; have k6d := (hb2.cell (p := ⟨w.heap.size + 1, 6, none⟩) hlt1).trans k6c; have hlt2 : w.heap.size + 1 < w2.heap.size := Nat.lt_of_lt_of_le hlt1 hb2.size; clear tok1 s2c k6c) | (go_at_call 61; with_reducible refine (c0 _).mono ?_; rintro e w3 ⟨rfl, hb3⟩; have s2e := (hb3.cell (p := ⟨w.heap.size, 2, none⟩) (by show w.heap.size < _; omega)).trans s2d; have k6e := (hb3.cell (p := ⟨w.heap.size + 1, 6, none⟩) hlt2).trans k6d; clear s2d k6d) | (go_at_call 60; with_reducible refine (ct _).mono ?_; rintro e w4 ⟨rfl, hb4⟩))
    go_ret; exact ⟨rfl, below_tr (below_tr (below_tr HW1.out hb2) hb3) hb4⟩
theorem replace_1 (d : ByteArray) (k : Nat) (so : Int) (rp : ByteArray) (ss : StM) (aa : Option Addr) (nn cc : Nat) (s2 : StM) (a2 : Option Addr) (n2 c2 : Nat) (w : World) (hd : d.size = k * 32) (hk : k ≤ 40) (h2 : StOk s2) (hk2 : s2.kept.length ≤ s2.cap) (hc : s2.cap ≤ 30) (hn : 1 + 2 * halfN s2.cap ≤ k) (hv : EntsAt w (.slice a2 n2 c2) s2.kept) :
    Calls Try.prog 39 #[.string d, .agg #[.int .i64 so, .string rp, .int .i64 1, .int .i64 ss.role, .int .i64 ss.step, .int .i64 ss.sent, .int .i64 ss.got, .int .i64 ss.prev, .int .i64 ss.skip, .int .i64 ss.cap, .string (str ss.root), .string (str ss.out), .string (str ss.inn), .int .i64 ss.secret, .int .i64 ss.peer, .slice aa nn cc], .agg #[.int .i64 s2.role, .int .i64 s2.step, .int .i64 s2.sent, .int .i64 s2.got, .int .i64 s2.prev, .int .i64 s2.skip, .int .i64 s2.cap, .string (str s2.root), .string (str s2.out), .string (str s2.inn), .int .i64 s2.secret, .int .i64 s2.peer, .slice a2 n2 c2]] w fun e w' => e = .returned (.string (str (encL (rplR d.data.toList (packL s2 0 (k * 32)) s2.cap 1)))) ∧ Below w.heap.size w w' := by
  have hxl := packL_length s2 0 k h2 hk2 (by omega) hn
  obtain ⟨xx, hxx⟩ : ∃ x, x = str (packL s2 0 (k * 32)) := ⟨_, rfl⟩
  have hxs : xx.size = k * 32 := by rw [hxx, str_size]; exact hxl
  have hxd : xx.data.toList = packL s2 0 (k * 32) := by rw [hxx, str_toList]
  have cs := fun w => sectors_any d k w (by unfold maxLen; omega) hd
  have cl : ∀ w, EntsAt w (.slice a2 n2 c2) s2.kept → Calls Try.prog 58 #[.agg #[.int .i64 s2.role, .int .i64 s2.step, .int .i64 s2.sent, .int .i64 s2.got, .int .i64 s2.prev, .int .i64 s2.skip, .int .i64 s2.cap, .string (str s2.root), .string (str s2.out), .string (str s2.inn), .int .i64 s2.secret, .int .i64 s2.peer, .slice a2 n2 c2], .int .i64 0, .int .i64 k] w fun e w' => e = .returned (.string xx) ∧ Below w.heap.size w w' := fun w h => by
    rw [hxx]; exact lay_any s2 (.slice a2 n2 c2) 0 k w h2 hk2 hc h (by omega) hk
  have cf := fun w => sideCh_zero d xx k s2.cap w hd hxs hk hc hn
  have c0 := fun w => changes_any d xx k 0 1 w hd hxs hk (by omega) (by omega) (by have := hn; omega)
  have ct := fun w => sideCh_one d xx k s2.cap w hd hxs hk hc hn
  rw [show (0 : Int).toNat = 0 from rfl, show (1 : Int).toNat = 1 from rfl] at c0
  have hh := (halfN_le s2.cap hc).1
  have hE : Hid (str (encL (rplR d.data.toList (packL s2 0 (k * 32)) s2.cap 1)) = str (changesL d.data.toList xx.data.toList 1 (1 + halfN s2.cap)) ++ str (changesL d.data.toList xx.data.toList 0 1) ++ str (changesL d.data.toList xx.data.toList (1 + halfN s2.cap) (1 + halfN s2.cap + halfN s2.cap))) := by
    show _ = _
    rw [hxd, str_append, str_append, rplR, threeR, encL_append, encL_append, ← changesL_enc, ← changesL_enc, ← changesL_enc]
    simp only [Nat.sub_self, Nat.zero_mul, Nat.one_mul, Nat.add_zero]
  have z1 := changesL_len d.data.toList xx.data.toList 1 (1 + halfN s2.cap); have z2 := changesL_len d.data.toList xx.data.toList 0 1; have z3 := changesL_len d.data.toList xx.data.toList (1 + halfN s2.cap) (1 + halfN s2.cap + halfN s2.cap)
  have y1 : (str (changesL d.data.toList xx.data.toList 1 (1 + halfN s2.cap))).size ≤ 1000 := by rw [str_size]; omega
  have y2 : (str (changesL d.data.toList xx.data.toList 0 1)).size ≤ 1000 := by rw [str_size]; omega
  have y3 : (str (changesL d.data.toList xx.data.toList (1 + halfN s2.cap) (1 + halfN s2.cap + halfN s2.cap))).size ≤ 1000 := by rw [str_size]; omega
  rw [hE.out]; clear z1 z2 z3 hE hxd hxs hxl hxx
  generalize str (changesL d.data.toList xx.data.toList 1 (1 + halfN s2.cap)) = p1 at *
  generalize str (changesL d.data.toList xx.data.toList 0 1) = p2 at *
  generalize str (changesL d.data.toList xx.data.toList (1 + halfN s2.cap) (1 + halfN s2.cap + halfN s2.cap)) = p3 at *
  clear hh hn h2 hk2 hc; have tok1 : True := trivial
  go_enter Try.func39, Try.ntmps39
  go_upto_region 1 with fail
  have hA : ((w.alloc (.cells #[.int .i64 so, .string rp, .int .i64 1, .int .i64 ss.role, .int .i64 ss.step, .int .i64 ss.sent, .int .i64 ss.got, .int .i64 ss.prev, .int .i64 ss.skip, .int .i64 ss.cap, .string (str ss.root), .string (str ss.out), .string (str ss.inn), .int .i64 ss.secret, .int .i64 ss.peer, .slice aa nn cc] 86)).alloc (.cells #[.int .i64 s2.role, .int .i64 s2.step, .int .i64 s2.sent, .int .i64 s2.got, .int .i64 s2.prev, .int .i64 s2.skip, .int .i64 s2.cap, .string (str s2.root), .string (str s2.out), .string (str s2.inn), .int .i64 s2.secret, .int .i64 s2.peer, .slice a2 n2 c2] 84)).heap[w.heap.size]? = some (.cells #[.int .i64 so, .string rp, .int .i64 1, .int .i64 ss.role, .int .i64 ss.step, .int .i64 ss.sent, .int .i64 ss.got, .int .i64 ss.prev, .int .i64 ss.skip, .int .i64 ss.cap, .string (str ss.root), .string (str ss.out), .string (str ss.inn), .int .i64 ss.secret, .int .i64 ss.peer, .slice aa nn cc] 86) := (Below.heap_alloc _ _ _ (by simp)).trans (heap_alloc_new w _)
  have hB : ((w.alloc (.cells #[.int .i64 so, .string rp, .int .i64 1, .int .i64 ss.role, .int .i64 ss.step, .int .i64 ss.sent, .int .i64 ss.got, .int .i64 ss.prev, .int .i64 ss.skip, .int .i64 ss.cap, .string (str ss.root), .string (str ss.out), .string (str ss.inn), .int .i64 ss.secret, .int .i64 ss.peer, .slice aa nn cc] 86)).alloc (.cells #[.int .i64 s2.role, .int .i64 s2.step, .int .i64 s2.sent, .int .i64 s2.got, .int .i64 s2.prev, .int .i64 s2.skip, .int .i64 s2.cap, .string (str s2.root), .string (str s2.out), .string (str s2.inn), .int .i64 s2.secret, .int .i64 s2.peer, .slice a2 n2 c2] 84)).heap[w.heap.size + 1]? = some (.cells #[.int .i64 s2.role, .int .i64 s2.step, .int .i64 s2.sent, .int .i64 s2.got, .int .i64 s2.prev, .int .i64 s2.skip, .int .i64 s2.cap, .string (str s2.root), .string (str s2.out), .string (str s2.inn), .int .i64 s2.secret, .int .i64 s2.peer, .slice a2 n2 c2] 84) := by
    have := heap_alloc_new (w.alloc (.cells #[.int .i64 so, .string rp, .int .i64 1, .int .i64 ss.role, .int .i64 ss.step, .int .i64 ss.sent, .int .i64 ss.got, .int .i64 ss.prev, .int .i64 ss.skip, .int .i64 ss.cap, .string (str ss.root), .string (str ss.out), .string (str ss.inn), .int .i64 ss.secret, .int .i64 ss.peer, .slice aa nn cc] 86)) (.cells #[.int .i64 s2.role, .int .i64 s2.step, .int .i64 s2.sent, .int .i64 s2.got, .int .i64 s2.prev, .int .i64 s2.skip, .int .i64 s2.cap, .string (str s2.root), .string (str s2.out), .string (str s2.inn), .int .i64 s2.secret, .int .i64 s2.peer, .slice a2 n2 c2] 84)
    simpa using this
  have hW : Below w.heap.size w ((w.alloc (.cells #[.int .i64 so, .string rp, .int .i64 1, .int .i64 ss.role, .int .i64 ss.step, .int .i64 ss.sent, .int .i64 ss.got, .int .i64 ss.prev, .int .i64 ss.skip, .int .i64 ss.cap, .string (str ss.root), .string (str ss.out), .string (str ss.inn), .int .i64 ss.secret, .int .i64 ss.peer, .slice aa nn cc] 86)).alloc (.cells #[.int .i64 s2.role, .int .i64 s2.step, .int .i64 s2.sent, .int .i64 s2.got, .int .i64 s2.prev, .int .i64 s2.skip, .int .i64 s2.cap, .string (str s2.root), .string (str s2.out), .string (str s2.inn), .int .i64 s2.secret, .int .i64 s2.peer, .slice a2 n2 c2] 84)) := ((Below.refl _ _).alloc (Nat.le_refl _) _).alloc (by simp) _
  have hlt : w.heap.size + 1 < ((w.alloc (.cells #[.int .i64 so, .string rp, .int .i64 1, .int .i64 ss.role, .int .i64 ss.step, .int .i64 ss.sent, .int .i64 ss.got, .int .i64 ss.prev, .int .i64 ss.skip, .int .i64 ss.cap, .string (str ss.root), .string (str ss.out), .string (str ss.inn), .int .i64 ss.secret, .int .i64 ss.peer, .slice aa nn cc] 86)).alloc (.cells #[.int .i64 s2.role, .int .i64 s2.step, .int .i64 s2.sent, .int .i64 s2.got, .int .i64 s2.prev, .int .i64 s2.skip, .int .i64 s2.cap, .string (str s2.root), .string (str s2.out), .string (str s2.inn), .int .i64 s2.secret, .int .i64 s2.peer, .slice a2 n2 c2] 84)).heap.size := by simp
  generalize ((w.alloc (.cells #[.int .i64 so, .string rp, .int .i64 1, .int .i64 ss.role, .int .i64 ss.step, .int .i64 ss.sent, .int .i64 ss.got, .int .i64 ss.prev, .int .i64 ss.skip, .int .i64 ss.cap, .string (str ss.root), .string (str ss.out), .string (str ss.inn), .int .i64 ss.secret, .int .i64 ss.peer, .slice aa nn cc] 86)).alloc (.cells #[.int .i64 s2.role, .int .i64 s2.step, .int .i64 s2.sent, .int .i64 s2.got, .int .i64 s2.prev, .int .i64 s2.skip, .int .i64 s2.cap, .string (str s2.root), .string (str s2.out), .string (str s2.inn), .int .i64 s2.secret, .int .i64 s2.peer, .slice a2 n2 c2] 84)) = wb at hA hB hW hlt ⊢
  have HV : Hid (EntsAt wb (.slice a2 n2 c2) s2.kept) := hv.next hW; have s2' : wb.cell? ⟨w.heap.size, 2, none⟩ = some (.int .i64 1) := cell_of_row wb _ 2 _ _ _ hA; obtain ⟨k0, k1, k2, k3, k4, k5, k6, k7, k8, k9, k10, k11, k12⟩ := cells13 hB; have HA := hid hA; have HB := hid hB; have HW := hid hW; clear hA hB hW hv
  go_upto_region 2 with fail
  go_cut [8] (fun t wx => t = .string xx ∧ Below wb.heap.size wb wx)
  case first =>
    go_region_with (first | (go_at_call 59; with_reducible refine (cs _).mono ?_; rintro e w' ⟨rfl, hw⟩; rw [hw]; clear hw w') | (go_at_call 58; with_reducible refine (cl _ (by first | exact HV.out | exact HV.out.next (Below.refl _ _).drew)).mono ?_; rintro e wz ⟨rfl, hbz⟩))
    all_goals (go_wp2_with fail)
    all_goals go_meet
    all_goals exact ⟨rfl, ⟨hbz.os, hbz.tape, hbz.output, hbz.size, hbz.block⟩⟩
  case rest =>
    obtain ⟨rfl, hb1⟩ := hcut
    have hA1 := (hb1.block w.heap.size (by omega)).trans HA.out
    have hB1 := (hb1.block (w.heap.size + 1) hlt).trans HB.out; have HW1 : Hid (Below w.heap.size w wc) := below_tr HW.out hb1; have hlt1 : w.heap.size + 1 < wc.heap.size := Nat.lt_of_lt_of_le hlt hb1.size; have s2c : wc.cell? ⟨w.heap.size, 2, none⟩ = some (.int .i64 1) := cell_of_row wc _ 2 _ _ _ hA1; have k6c : wc.cell? ⟨w.heap.size + 1, 6, none⟩ = some (.int .i64 s2.cap) := cell_of_row wc _ 6 _ _ _ hB1; clear k0 k1 k2 k3 k4 k5 k6 k7 k8 k9 k10 k11 k12 s2' hA1 hB1 HA HB HW HV cl cs
    go_wp2_with (first | (go_at_call 60; have _t := tok1; with_reducible refine (cf _).mono ?_; rintro e w2 ⟨rfl, hb2⟩; have s2d := (hb2.cell (p := ⟨w.heap.size, 2, none⟩) (by show w.heap.size < _; omega)).trans s2c; have k6d := (hb2.cell (p := ⟨w.heap.size + 1, 6, none⟩) hlt1).trans k6c; have hlt2 : w.heap.size + 1 < w2.heap.size := Nat.lt_of_lt_of_le hlt1 hb2.size; clear tok1 s2c k6c) | (go_at_call 61; with_reducible refine (c0 _).mono ?_; rintro e w3 ⟨rfl, hb3⟩; have s2e := (hb3.cell (p := ⟨w.heap.size, 2, none⟩) (by show w.heap.size < _; omega)).trans s2d; have k6e := (hb3.cell (p := ⟨w.heap.size + 1, 6, none⟩) hlt2).trans k6d; clear s2d k6d) | (go_at_call 60; with_reducible refine (ct _).mono ?_; rintro e w4 ⟨rfl, hb4⟩))
    go_ret; exact ⟨rfl, below_tr (below_tr (below_tr HW1.out hb2) hb3) hb4⟩
theorem replace_any (d : ByteArray) (k : Nat) (so : Int) (rp : ByteArray) (lv : Nat) (ss : StM) (aa : Option Addr) (nn cc : Nat) (s2 : StM) (a2 : Option Addr) (n2 c2 : Nat) (w : World) (hd : d.size = k * 32) (hk : k ≤ 40) (hl : lv ≤ 1) (h2 : StOk s2) (hk2 : s2.kept.length ≤ s2.cap) (hc : s2.cap ≤ 30) (hn : 1 + 2 * halfN s2.cap ≤ k) (hv : EntsAt w (.slice a2 n2 c2) s2.kept) :
    Calls Try.prog 39 #[.string d, .agg #[.int .i64 so, .string rp, .int .i64 lv, .int .i64 ss.role, .int .i64 ss.step, .int .i64 ss.sent, .int .i64 ss.got, .int .i64 ss.prev, .int .i64 ss.skip, .int .i64 ss.cap, .string (str ss.root), .string (str ss.out), .string (str ss.inn), .int .i64 ss.secret, .int .i64 ss.peer, .slice aa nn cc], .agg #[.int .i64 s2.role, .int .i64 s2.step, .int .i64 s2.sent, .int .i64 s2.got, .int .i64 s2.prev, .int .i64 s2.skip, .int .i64 s2.cap, .string (str s2.root), .string (str s2.out), .string (str s2.inn), .int .i64 s2.secret, .int .i64 s2.peer, .slice a2 n2 c2]] w fun e w' => e = .returned (.string (str (encL (rplR d.data.toList (packL s2 (1 - lv) (k * 32)) s2.cap lv)))) ∧ Below w.heap.size w w' := by
  have : lv = 0 ∨ lv = 1 := by omega
  rcases this with rfl | rfl
  · exact replace_0 d k so rp ss aa nn cc s2 a2 n2 c2 w hd hk h2 hk2 hc hn hv
  · exact replace_1 d k so rp ss aa nn cc s2 a2 n2 c2 w hd hk h2 hk2 hc hn hv
end Go.Proofs.Ytabpkohcimiceab
