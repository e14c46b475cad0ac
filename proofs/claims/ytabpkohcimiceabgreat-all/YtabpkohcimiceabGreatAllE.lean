import Derived.Test.YtabpkohcimiceabGreatAllD
import Derived.WalkKit
import Derived.WalkSpells
import Derived.WalkLawsBesides
import Derived.OwnWalk
import Derived.Laws.Rows
import Derived.Handy
import Derived.Deep.RegionHeld3
import Derived.Deep.DeepMust
import Derived.Deep.DeepCutAuto
namespace Go.Proofs.YtabpkohcimiceabGreat
open Go.RowKit
set_option linter.unusedVariables false
set_option linter.unusedSimpArgs false

/-! ### pawllaw: makes -/
theorem cre_planOk (d sec : ByteArray) (role skip cap peer draw : Int) (h : creErr d.data.toList role skip cap peer sec.data.toList draw = 0) : ∃ k l t, PlanOk d (str (crePlan d.data.toList role skip cap peer sec.data.toList draw)) k l t ∧ t.length ≤ 100000 := by
  obtain ⟨k, s, hD, hk, hk1, hk2, hz, so, skept, scap, sneed, slaw, hto, hplan⟩ := cre_ok d role skip cap peer sec draw h
  obtain ⟨r1, r2, r3⟩ := cre_safe (packL s 0 (k * 32)) d.data.toList s k hz hk1 hk2 so skept scap sneed slaw rfl
  obtain ⟨q1, q2⟩ := recsF_ok _ _ _ _ r1
  have hl := encL_bd k _ q2
  have hlen : (packL s 0 (k * 32)).length = k * 32 := packL_length s 0 k so (by rw [skept]; exact Nat.zero_le _) (by omega) sneed
  refine ⟨k, _, packL s 0 (k * 32), ⟨hD, hk, hk1, hk2, ?_, by rw [str_toList, hplan]; exact r1, r2, fun m kq hm => ?_⟩, by omega⟩
  · rw [str_size, hplan]; unfold maxLen; omega
  · rcases r3 m kq hm with q | q
    · exact ⟨_, q⟩
    · exact ⟨_, q⟩
theorem rec_planOk (d : ByteArray) (h : (repairR d.data.toList).2 = 0) : ∃ k l t, PlanOk d (str (recPlan d.data.toList)) k l t ∧ t.length ≤ 100000 := by
  cases hD : isDiskL d.data.toList with
  | false => rw [repairR, hD] at h; simp at h
  | true =>
    obtain ⟨k, hk, hk1, hk2⟩ := disk_facts hD
    have hkl : d.data.toList.length = k * 32 := by rw [len_list]; exact hk
    obtain ⟨r, hr⟩ : ∃ r, repairR d.data.toList = (r, 0) := ⟨(repairR d.data.toList).1, by rw [← h]⟩
    obtain ⟨s1, s2, s3⟩ := rec_safe d.data.toList r k hkl hk1 hk2 hr
    obtain ⟨q1, q2⟩ := recsF_ok _ _ _ _ s1
    have hl := encL_bd k _ q2
    have hpl : recPlan d.data.toList = encL (changesR d.data.toList r 0 k) := by
      rw [recPlan, hr, if_pos rfl, hkl, show k * 32 / 32 = k by omega, changesL_enc]
    have hrl : r.length = k * 32 := by
      rw [← s2 []]
      exact leftL_length _ _ _ _ _ hkl (fit_of_ok q2) (Nat.le_refl _)
    refine ⟨k, _, r, ⟨hD, hk, hk1, hk2, ?_, by rw [str_toList, hpl]; exact s1, s2, fun m kq hm => ⟨r, s3 m kq hm⟩⟩, by omega⟩
    rw [str_size, hpl]; unfold maxLen; omega

set_option maxRecDepth 100000 in
set_option maxHeartbeats 1000000 in
theorem makes_create (G base : Nat) (A B : ByteArray) (v : Value) (L : List ByteArray) (kd who nn dr o0 o1 o2 o3 : Int) (tx ty : ByteArray) (cut : Bool) (w : World) (hW : WAt G base A B v L w) (hGb : G < base) (hn : (Lit.int .i64 nn).wf = true) (hdr : (Lit.int .i64 dr).wf = true) (hx : tx.size ≤ maxLen) (hy : ty.size ≤ maxLen) (hc0 : (Lit.int .i64 o0).wf = true) (hc1 : (Lit.int .i64 o1).wf = true) (hc2 : (Lit.int .i64 o2).wf = true) (hc3 : (Lit.int .i64 o3).wf = true) (hk : kd = 4) :
    Calls Tryz.prog 6 #[.pointer (some ⟨G, 0, none⟩), .agg #[.int .i64 kd, .int .i64 who, .int .i64 nn, .int .i64 dr, .int .i64 o0, .int .i64 o1, .int .i64 o2, .int .i64 o3, .string tx, .string ty, .bool cut]] w fun e w' => e = .returned (.bool true) ∧ WOut G base v L w w' := by
  have hdd := disk_le who hW.a hW.b
  have hGlt := hW.lt
  have c1 := fun w hG => wDisk_any G A B v who w hG
  have c2 := fun w => creates_walk (diskOf A B who) o0 o1 o2 o3 tx dr nn ty hdd hc0 hc1 hc2 hc3 hx hdr hn hy w
  have c3 : ∀ w, Calls Tryz.prog 23 #[.string (diskOf A B who), .agg #[.int .i64 o0, .int .i64 o1, .int .i64 o2, .int .i64 o3], .string tx, .int .i64 dr] w fun e w' => e = .returned (.tuple #[.string (str (crePlan (diskOf A B who).data.toList o0 o1 o2 o3 tx.data.toList dr)), .int .i64 (creErr (diskOf A B who).data.toList o0 o1 o2 o3 tx.data.toList dr)]) ∧ Below w.heap.size w w' := fun w => pawlCreate_any (diskOf A B who) o0 o1 o2 o3 tx dr w hdd hx
  have HWW := hid hW
  subst hk
  by_cases he : creErr (diskOf A B who).data.toList o0 o1 o2 o3 tx.data.toList dr = 0
  · obtain ⟨k, l, tt, hp, ht⟩ := cre_planOk (diskOf A B who) tx o0 o1 o2 o3 dr he
    have c4 := fun w hG => carry_any G A B v 4 who nn dr o0 o1 o2 o3 tx ty cut (str (crePlan (diskOf A B who).data.toList o0 o1 o2 o3 tx.data.toList dr)) k l _ w hG hp ht (wf_i64 hn) hy
    rw [he] at c3
    generalize str (crePlan (diskOf A B who).data.toList o0 o1 o2 o3 tx.data.toList dr) = pl at *
    generalize diskOf A B who = dd at *
    clear he hp ht hdd
    go_enter Tryz.func6, Tryz.ntmps6
    go_upto_region 1 with fail
    have hO := heap_alloc_new w (.cells #[.int .i64 4, .int .i64 who, .int .i64 nn, .int .i64 dr, .int .i64 o0, .int .i64 o1, .int .i64 o2, .int .i64 o3, .string tx, .string ty, .bool cut] 31)
    have hWa : Below w.heap.size w (w.alloc (.cells #[.int .i64 4, .int .i64 who, .int .i64 nn, .int .i64 dr, .int .i64 o0, .int .i64 o1, .int .i64 o2, .int .i64 o3, .string tx, .string ty, .bool cut] 31)) := (Below.refl _ _).alloc (Nat.le_refl _) _
    have hlt : w.heap.size < (w.alloc (.cells #[.int .i64 4, .int .i64 who, .int .i64 nn, .int .i64 dr, .int .i64 o0, .int .i64 o1, .int .i64 o2, .int .i64 o3, .string tx, .string ty, .bool cut] 31)).heap.size := by simp
    generalize (w.alloc (.cells #[.int .i64 4, .int .i64 who, .int .i64 nn, .int .i64 dr, .int .i64 o0, .int .i64 o1, .int .i64 o2, .int .i64 o3, .string tx, .string ty, .bool cut] 31)) = wa at hO hWa hlt ⊢
    have HO := hid hO
    have HWa := hid hWa
    have HA := hid (hW.next hWa)
    have k0 : wa.cell? ⟨w.heap.size, 0, none⟩ = some (.int .i64 4) := cell_of_row wa _ 0 _ _ _ hO
    have k1 : wa.cell? ⟨w.heap.size, 1, none⟩ = some (.int .i64 who) := cell_of_row wa _ 1 _ _ _ hO
    have k2 : wa.cell? ⟨w.heap.size, 2, none⟩ = some (.int .i64 nn) := cell_of_row wa _ 2 _ _ _ hO
    have k3 : wa.cell? ⟨w.heap.size, 3, none⟩ = some (.int .i64 dr) := cell_of_row wa _ 3 _ _ _ hO
    have k4 : wa.cell? ⟨w.heap.size, 4, none⟩ = some (.int .i64 o0) := cell_of_row wa _ 4 _ _ _ hO
    have k5 : wa.cell? ⟨w.heap.size, 5, none⟩ = some (.int .i64 o1) := cell_of_row wa _ 5 _ _ _ hO
    have k6 : wa.cell? ⟨w.heap.size, 6, none⟩ = some (.int .i64 o2) := cell_of_row wa _ 6 _ _ _ hO
    have k7 : wa.cell? ⟨w.heap.size, 7, none⟩ = some (.int .i64 o3) := cell_of_row wa _ 7 _ _ _ hO
    have k8 : wa.cell? ⟨w.heap.size, 8, none⟩ = some (.string tx) := cell_of_row wa _ 8 _ _ _ hO
    have k9 : wa.cell? ⟨w.heap.size, 9, none⟩ = some (.string ty) := cell_of_row wa _ 9 _ _ _ hO
    clear hO hWa
    go_upto_region 4 with (first | (go_at_call 11; go_loud (with_reducible refine (c1 _ HA.out.blk).mono ?_); rintro e w' ⟨rfl, hw⟩; rw [hw]; clear hw w') | (go_at_call 22; go_loud (with_reducible refine (c2 _).mono ?_); rintro e w2 ⟨rfl, hb2⟩))
    have HA2 := hid (HA.out.next hb2)
    have hO2 := (hb2.block w.heap.size (by omega)).trans HO.out
    have HW2 := hid (below_tr HWa.out hb2)
    have hs2 := hb2.size
    clear k0 k1 k2 k3 k4 k5 k6 k7 k8 k9 c1 c2 hb2
    have k3 : w2.cell? ⟨w.heap.size, 3, none⟩ = some (.int .i64 dr) := cell_of_row w2 _ 3 _ _ _ hO2
    have k4 : w2.cell? ⟨w.heap.size, 4, none⟩ = some (.int .i64 o0) := cell_of_row w2 _ 4 _ _ _ hO2
    have k5 : w2.cell? ⟨w.heap.size, 5, none⟩ = some (.int .i64 o1) := cell_of_row w2 _ 5 _ _ _ hO2
    have k6 : w2.cell? ⟨w.heap.size, 6, none⟩ = some (.int .i64 o2) := cell_of_row w2 _ 6 _ _ _ hO2
    have k7 : w2.cell? ⟨w.heap.size, 7, none⟩ = some (.int .i64 o3) := cell_of_row w2 _ 7 _ _ _ hO2
    have k8 : w2.cell? ⟨w.heap.size, 8, none⟩ = some (.string tx) := cell_of_row w2 _ 8 _ _ _ hO2
    have HO2 := hid hO2
    clear hO2
    go_upto_region 6 with (first | (go_at_call 23; go_loud (with_reducible refine (c3 _).mono ?_); rintro e w3 ⟨rfl, hb3⟩) | (go_at_call 24; go_must (with_reducible refine (lawNum_any _ _).mono ?_); rintro e w' ⟨rfl, hw⟩; rw [hw]; clear hw w'))
    have HA3 := hid (HA2.out.next hb3)
    have hO3 := (hb3.block w.heap.size (by omega)).trans HO2.out
    have HW3 := hid (below_tr HW2.out hb3)
    have hs3 := hb3.size
    clear k3 k4 k5 k6 k7 k8 c3 hb3
    have k0 : w3.cell? ⟨w.heap.size, 0, none⟩ = some (.int .i64 4) := cell_of_row w3 _ 0 _ _ _ hO3
    have k1 : w3.cell? ⟨w.heap.size, 1, none⟩ = some (.int .i64 who) := cell_of_row w3 _ 1 _ _ _ hO3
    have k2 : w3.cell? ⟨w.heap.size, 2, none⟩ = some (.int .i64 nn) := cell_of_row w3 _ 2 _ _ _ hO3
    have k3 : w3.cell? ⟨w.heap.size, 3, none⟩ = some (.int .i64 dr) := cell_of_row w3 _ 3 _ _ _ hO3
    have k4 : w3.cell? ⟨w.heap.size, 4, none⟩ = some (.int .i64 o0) := cell_of_row w3 _ 4 _ _ _ hO3
    have k5 : w3.cell? ⟨w.heap.size, 5, none⟩ = some (.int .i64 o1) := cell_of_row w3 _ 5 _ _ _ hO3
    have k6 : w3.cell? ⟨w.heap.size, 6, none⟩ = some (.int .i64 o2) := cell_of_row w3 _ 6 _ _ _ hO3
    have k7 : w3.cell? ⟨w.heap.size, 7, none⟩ = some (.int .i64 o3) := cell_of_row w3 _ 7 _ _ _ hO3
    have k8 : w3.cell? ⟨w.heap.size, 8, none⟩ = some (.string tx) := cell_of_row w3 _ 8 _ _ _ hO3
    have k9 : w3.cell? ⟨w.heap.size, 9, none⟩ = some (.string ty) := cell_of_row w3 _ 9 _ _ _ hO3
    have k10 : w3.cell? ⟨w.heap.size, 10, none⟩ = some (.bool cut) := cell_of_row w3 _ 10 _ _ _ hO3
    have HO3 := hid hO3
    clear hO3
    go_wp2_with (first | (go_at_call 25; go_loud (with_reducible refine (c4 _ HA3.out.blk).mono ?_); rintro e w4 ⟨rfl, ⟨x, hG4, hx⟩, hN4⟩; have HG4 := hid hG4; have HX := hid hx; have HN4 := hid hN4; clear hG4 hx hN4))
    go_ret
    exact ⟨rfl, WOut.set who HWW.out hGb ((Only.of_below HW3.out).trans HN4.out) HG4.out HX.out⟩
  · generalize creErr (diskOf A B who).data.toList o0 o1 o2 o3 tx.data.toList dr = E at *
    have hE : (E == 0) = false := by rw [beq_eq_false_iff_ne]; exact he
    generalize str (crePlan (diskOf A B who).data.toList o0 o1 o2 o3 tx.data.toList dr) = pl at *
    generalize diskOf A B who = dd at *
    clear hdd
    go_enter Tryz.func6, Tryz.ntmps6
    go_upto_region 1 with fail
    have hO := heap_alloc_new w (.cells #[.int .i64 4, .int .i64 who, .int .i64 nn, .int .i64 dr, .int .i64 o0, .int .i64 o1, .int .i64 o2, .int .i64 o3, .string tx, .string ty, .bool cut] 31)
    have hWa : Below w.heap.size w (w.alloc (.cells #[.int .i64 4, .int .i64 who, .int .i64 nn, .int .i64 dr, .int .i64 o0, .int .i64 o1, .int .i64 o2, .int .i64 o3, .string tx, .string ty, .bool cut] 31)) := (Below.refl _ _).alloc (Nat.le_refl _) _
    have hlt : w.heap.size < (w.alloc (.cells #[.int .i64 4, .int .i64 who, .int .i64 nn, .int .i64 dr, .int .i64 o0, .int .i64 o1, .int .i64 o2, .int .i64 o3, .string tx, .string ty, .bool cut] 31)).heap.size := by simp
    generalize (w.alloc (.cells #[.int .i64 4, .int .i64 who, .int .i64 nn, .int .i64 dr, .int .i64 o0, .int .i64 o1, .int .i64 o2, .int .i64 o3, .string tx, .string ty, .bool cut] 31)) = wa at hO hWa hlt ⊢
    have HO := hid hO
    have HWa := hid hWa
    have HA := hid (hW.next hWa)
    have k0 : wa.cell? ⟨w.heap.size, 0, none⟩ = some (.int .i64 4) := cell_of_row wa _ 0 _ _ _ hO
    have k1 : wa.cell? ⟨w.heap.size, 1, none⟩ = some (.int .i64 who) := cell_of_row wa _ 1 _ _ _ hO
    have k2 : wa.cell? ⟨w.heap.size, 2, none⟩ = some (.int .i64 nn) := cell_of_row wa _ 2 _ _ _ hO
    have k3 : wa.cell? ⟨w.heap.size, 3, none⟩ = some (.int .i64 dr) := cell_of_row wa _ 3 _ _ _ hO
    have k4 : wa.cell? ⟨w.heap.size, 4, none⟩ = some (.int .i64 o0) := cell_of_row wa _ 4 _ _ _ hO
    have k5 : wa.cell? ⟨w.heap.size, 5, none⟩ = some (.int .i64 o1) := cell_of_row wa _ 5 _ _ _ hO
    have k6 : wa.cell? ⟨w.heap.size, 6, none⟩ = some (.int .i64 o2) := cell_of_row wa _ 6 _ _ _ hO
    have k7 : wa.cell? ⟨w.heap.size, 7, none⟩ = some (.int .i64 o3) := cell_of_row wa _ 7 _ _ _ hO
    have k8 : wa.cell? ⟨w.heap.size, 8, none⟩ = some (.string tx) := cell_of_row wa _ 8 _ _ _ hO
    have k9 : wa.cell? ⟨w.heap.size, 9, none⟩ = some (.string ty) := cell_of_row wa _ 9 _ _ _ hO
    clear hO hWa
    go_upto_region 4 with (first | (go_at_call 11; go_loud (with_reducible refine (c1 _ HA.out.blk).mono ?_); rintro e w' ⟨rfl, hw⟩; rw [hw]; clear hw w') | (go_at_call 22; go_loud (with_reducible refine (c2 _).mono ?_); rintro e w2 ⟨rfl, hb2⟩))
    have HA2 := hid (HA.out.next hb2)
    have hO2 := (hb2.block w.heap.size (by omega)).trans HO.out
    have HW2 := hid (below_tr HWa.out hb2)
    have hs2 := hb2.size
    clear k0 k1 k2 k3 k4 k5 k6 k7 k8 k9 c1 c2 hb2
    have k3 : w2.cell? ⟨w.heap.size, 3, none⟩ = some (.int .i64 dr) := cell_of_row w2 _ 3 _ _ _ hO2
    have k4 : w2.cell? ⟨w.heap.size, 4, none⟩ = some (.int .i64 o0) := cell_of_row w2 _ 4 _ _ _ hO2
    have k5 : w2.cell? ⟨w.heap.size, 5, none⟩ = some (.int .i64 o1) := cell_of_row w2 _ 5 _ _ _ hO2
    have k6 : w2.cell? ⟨w.heap.size, 6, none⟩ = some (.int .i64 o2) := cell_of_row w2 _ 6 _ _ _ hO2
    have k7 : w2.cell? ⟨w.heap.size, 7, none⟩ = some (.int .i64 o3) := cell_of_row w2 _ 7 _ _ _ hO2
    have k8 : w2.cell? ⟨w.heap.size, 8, none⟩ = some (.string tx) := cell_of_row w2 _ 8 _ _ _ hO2
    have HO2 := hid hO2
    clear hO2
    go_wp2_with (first | (go_at_call 23; go_loud (with_reducible refine (c3 _).mono ?_); rintro e w3 ⟨rfl, hb3⟩) | (go_at_call 24; go_must (with_reducible refine (lawNum_any _ _).mono ?_); rintro e w' ⟨rfl, hw⟩; rw [hw]; clear hw w'))
    go_ret
    exact ⟨rfl, WOut.same HWW.out (below_tr HW2.out hb3)⟩

set_option maxRecDepth 100000 in
set_option maxHeartbeats 1000000 in
theorem makes_recover (G base : Nat) (A B : ByteArray) (v : Value) (L : List ByteArray) (kd who nn dr o0 o1 o2 o3 : Int) (tx ty : ByteArray) (cut : Bool) (w : World) (hW : WAt G base A B v L w) (hGb : G < base) (hn : (Lit.int .i64 nn).wf = true) (hdr : (Lit.int .i64 dr).wf = true) (hx : tx.size ≤ maxLen) (hy : ty.size ≤ maxLen) (hc0 : (Lit.int .i64 o0).wf = true) (hc1 : (Lit.int .i64 o1).wf = true) (hc2 : (Lit.int .i64 o2).wf = true) (hc3 : (Lit.int .i64 o3).wf = true) (hk : kd ≠ 4) :
    Calls Tryz.prog 6 #[.pointer (some ⟨G, 0, none⟩), .agg #[.int .i64 kd, .int .i64 who, .int .i64 nn, .int .i64 dr, .int .i64 o0, .int .i64 o1, .int .i64 o2, .int .i64 o3, .string tx, .string ty, .bool cut]] w fun e w' => e = .returned (.bool true) ∧ WOut G base v L w w' := by
  have hdd := disk_le who hW.a hW.b
  have hGlt := hW.lt
  have c1 := fun w hG => wDisk_any G A B v who w hG
  have c2 := fun w => looks_walk (diskOf A B who) nn ty hdd hn hy w
  have c3 := fun w => pawlRecover_any (diskOf A B who) w hdd
  have HWW := hid hW
  have hk4 : (kd == 4) = false := by rw [beq_eq_false_iff_ne]; exact hk
  by_cases he : (repairR (diskOf A B who).data.toList).2 = 0
  · obtain ⟨k, l, tt, hp, ht⟩ := rec_planOk (diskOf A B who) he
    have c4 := fun w hG => carry_any G A B v kd who nn dr o0 o1 o2 o3 tx ty cut (str (recPlan (diskOf A B who).data.toList)) k l _ w hG hp ht (wf_i64 hn) hy
    rw [he] at c3
    generalize str (recPlan (diskOf A B who).data.toList) = pl at *
    generalize diskOf A B who = dd at *
    clear he hp ht hdd
    go_enter Tryz.func6, Tryz.ntmps6
    go_upto_region 1 with fail
    have hO := heap_alloc_new w (.cells #[.int .i64 kd, .int .i64 who, .int .i64 nn, .int .i64 dr, .int .i64 o0, .int .i64 o1, .int .i64 o2, .int .i64 o3, .string tx, .string ty, .bool cut] 31)
    have hWa : Below w.heap.size w (w.alloc (.cells #[.int .i64 kd, .int .i64 who, .int .i64 nn, .int .i64 dr, .int .i64 o0, .int .i64 o1, .int .i64 o2, .int .i64 o3, .string tx, .string ty, .bool cut] 31)) := (Below.refl _ _).alloc (Nat.le_refl _) _
    have hlt : w.heap.size < (w.alloc (.cells #[.int .i64 kd, .int .i64 who, .int .i64 nn, .int .i64 dr, .int .i64 o0, .int .i64 o1, .int .i64 o2, .int .i64 o3, .string tx, .string ty, .bool cut] 31)).heap.size := by simp
    generalize (w.alloc (.cells #[.int .i64 kd, .int .i64 who, .int .i64 nn, .int .i64 dr, .int .i64 o0, .int .i64 o1, .int .i64 o2, .int .i64 o3, .string tx, .string ty, .bool cut] 31)) = wa at hO hWa hlt ⊢
    have HO := hid hO
    have HWa := hid hWa
    have HA := hid (hW.next hWa)
    have k0 : wa.cell? ⟨w.heap.size, 0, none⟩ = some (.int .i64 kd) := cell_of_row wa _ 0 _ _ _ hO
    have k1 : wa.cell? ⟨w.heap.size, 1, none⟩ = some (.int .i64 who) := cell_of_row wa _ 1 _ _ _ hO
    have k2 : wa.cell? ⟨w.heap.size, 2, none⟩ = some (.int .i64 nn) := cell_of_row wa _ 2 _ _ _ hO
    have k9 : wa.cell? ⟨w.heap.size, 9, none⟩ = some (.string ty) := cell_of_row wa _ 9 _ _ _ hO
    clear hO hWa
    go_upto_region 9 with (first | (go_at_call 11; go_loud (with_reducible refine (c1 _ HA.out.blk).mono ?_); rintro e w' ⟨rfl, hw⟩; rw [hw]; clear hw w') | (go_at_call 26; go_loud (with_reducible refine (c2 _).mono ?_); rintro e w2 ⟨rfl, hb2⟩))
    have HA2 := hid (HA.out.next hb2)
    have hO2 := (hb2.block w.heap.size (by omega)).trans HO.out
    have HW2 := hid (below_tr HWa.out hb2)
    have hs2 := hb2.size
    clear k0 k1 k2 k9 c1 c2 hb2
    have HO2 := hid hO2
    clear hO2
    go_upto_region 11 with (first | (go_at_call 27; go_loud (with_reducible refine (c3 _).mono ?_); rintro e w3 ⟨rfl, hb3⟩) | (go_at_call 24; go_must (with_reducible refine (lawNum_any _ _).mono ?_); rintro e w' ⟨rfl, hw⟩; rw [hw]; clear hw w'))
    have HA3 := hid (HA2.out.next hb3)
    have hO3 := (hb3.block w.heap.size (by omega)).trans HO2.out
    have HW3 := hid (below_tr HW2.out hb3)
    have hs3 := hb3.size
    clear c3 hb3
    have k0 : w3.cell? ⟨w.heap.size, 0, none⟩ = some (.int .i64 kd) := cell_of_row w3 _ 0 _ _ _ hO3
    have k1 : w3.cell? ⟨w.heap.size, 1, none⟩ = some (.int .i64 who) := cell_of_row w3 _ 1 _ _ _ hO3
    have k2 : w3.cell? ⟨w.heap.size, 2, none⟩ = some (.int .i64 nn) := cell_of_row w3 _ 2 _ _ _ hO3
    have k3 : w3.cell? ⟨w.heap.size, 3, none⟩ = some (.int .i64 dr) := cell_of_row w3 _ 3 _ _ _ hO3
    have k4 : w3.cell? ⟨w.heap.size, 4, none⟩ = some (.int .i64 o0) := cell_of_row w3 _ 4 _ _ _ hO3
    have k5 : w3.cell? ⟨w.heap.size, 5, none⟩ = some (.int .i64 o1) := cell_of_row w3 _ 5 _ _ _ hO3
    have k6 : w3.cell? ⟨w.heap.size, 6, none⟩ = some (.int .i64 o2) := cell_of_row w3 _ 6 _ _ _ hO3
    have k7 : w3.cell? ⟨w.heap.size, 7, none⟩ = some (.int .i64 o3) := cell_of_row w3 _ 7 _ _ _ hO3
    have k8 : w3.cell? ⟨w.heap.size, 8, none⟩ = some (.string tx) := cell_of_row w3 _ 8 _ _ _ hO3
    have k9 : w3.cell? ⟨w.heap.size, 9, none⟩ = some (.string ty) := cell_of_row w3 _ 9 _ _ _ hO3
    have k10 : w3.cell? ⟨w.heap.size, 10, none⟩ = some (.bool cut) := cell_of_row w3 _ 10 _ _ _ hO3
    have HO3 := hid hO3
    clear hO3
    go_wp2_with (first | (go_at_call 25; go_loud (with_reducible refine (c4 _ HA3.out.blk).mono ?_); rintro e w4 ⟨rfl, ⟨x, hG4, hx⟩, hN4⟩; have HG4 := hid hG4; have HX := hid hx; have HN4 := hid hN4; clear hG4 hx hN4))
    go_ret
    exact ⟨rfl, WOut.set who HWW.out hGb ((Only.of_below HW3.out).trans HN4.out) HG4.out HX.out⟩
  · generalize (repairR (diskOf A B who).data.toList).2 = E at *
    have hE : (E == 0) = false := by rw [beq_eq_false_iff_ne]; exact he
    generalize str (recPlan (diskOf A B who).data.toList) = pl at *
    generalize diskOf A B who = dd at *
    clear hdd
    go_enter Tryz.func6, Tryz.ntmps6
    go_upto_region 1 with fail
    have hO := heap_alloc_new w (.cells #[.int .i64 kd, .int .i64 who, .int .i64 nn, .int .i64 dr, .int .i64 o0, .int .i64 o1, .int .i64 o2, .int .i64 o3, .string tx, .string ty, .bool cut] 31)
    have hWa : Below w.heap.size w (w.alloc (.cells #[.int .i64 kd, .int .i64 who, .int .i64 nn, .int .i64 dr, .int .i64 o0, .int .i64 o1, .int .i64 o2, .int .i64 o3, .string tx, .string ty, .bool cut] 31)) := (Below.refl _ _).alloc (Nat.le_refl _) _
    have hlt : w.heap.size < (w.alloc (.cells #[.int .i64 kd, .int .i64 who, .int .i64 nn, .int .i64 dr, .int .i64 o0, .int .i64 o1, .int .i64 o2, .int .i64 o3, .string tx, .string ty, .bool cut] 31)).heap.size := by simp
    generalize (w.alloc (.cells #[.int .i64 kd, .int .i64 who, .int .i64 nn, .int .i64 dr, .int .i64 o0, .int .i64 o1, .int .i64 o2, .int .i64 o3, .string tx, .string ty, .bool cut] 31)) = wa at hO hWa hlt ⊢
    have HO := hid hO
    have HWa := hid hWa
    have HA := hid (hW.next hWa)
    have k0 : wa.cell? ⟨w.heap.size, 0, none⟩ = some (.int .i64 kd) := cell_of_row wa _ 0 _ _ _ hO
    have k1 : wa.cell? ⟨w.heap.size, 1, none⟩ = some (.int .i64 who) := cell_of_row wa _ 1 _ _ _ hO
    have k2 : wa.cell? ⟨w.heap.size, 2, none⟩ = some (.int .i64 nn) := cell_of_row wa _ 2 _ _ _ hO
    have k9 : wa.cell? ⟨w.heap.size, 9, none⟩ = some (.string ty) := cell_of_row wa _ 9 _ _ _ hO
    clear hO hWa
    go_upto_region 9 with (first | (go_at_call 11; go_loud (with_reducible refine (c1 _ HA.out.blk).mono ?_); rintro e w' ⟨rfl, hw⟩; rw [hw]; clear hw w') | (go_at_call 26; go_loud (with_reducible refine (c2 _).mono ?_); rintro e w2 ⟨rfl, hb2⟩))
    have HA2 := hid (HA.out.next hb2)
    have hO2 := (hb2.block w.heap.size (by omega)).trans HO.out
    have HW2 := hid (below_tr HWa.out hb2)
    have hs2 := hb2.size
    clear k0 k1 k2 k9 c1 c2 hb2
    have HO2 := hid hO2
    clear hO2
    go_wp2_with (first | (go_at_call 27; go_loud (with_reducible refine (c3 _).mono ?_); rintro e w3 ⟨rfl, hb3⟩) | (go_at_call 24; go_must (with_reducible refine (lawNum_any _ _).mono ?_); rintro e w' ⟨rfl, hw⟩; rw [hw]; clear hw w'))
    go_ret
    exact ⟨rfl, WOut.same HWW.out (below_tr HW2.out hb3)⟩
theorem makes_any (G base : Nat) (A B : ByteArray) (v : Value) (L : List ByteArray) (kd who nn dr o0 o1 o2 o3 : Int) (tx ty : ByteArray) (cut : Bool) (w : World) (hW : WAt G base A B v L w) (hGb : G < base) (hn : (Lit.int .i64 nn).wf = true) (hdr : (Lit.int .i64 dr).wf = true) (hx : tx.size ≤ maxLen) (hy : ty.size ≤ maxLen) (hc0 : (Lit.int .i64 o0).wf = true) (hc1 : (Lit.int .i64 o1).wf = true) (hc2 : (Lit.int .i64 o2).wf = true) (hc3 : (Lit.int .i64 o3).wf = true) :
    Calls Tryz.prog 6 #[.pointer (some ⟨G, 0, none⟩), .agg #[.int .i64 kd, .int .i64 who, .int .i64 nn, .int .i64 dr, .int .i64 o0, .int .i64 o1, .int .i64 o2, .int .i64 o3, .string tx, .string ty, .bool cut]] w fun e w' => e = .returned (.bool true) ∧ WOut G base v L w w' := by
  by_cases hk : kd = 4
  · exact makes_create G base A B v L kd who nn dr o0 o1 o2 o3 tx ty cut w hW hGb hn hdr hx hy hc0 hc1 hc2 hc3 hk
  · exact makes_recover G base A B v L kd who nn dr o0 o1 o2 o3 tx ty cut w hW hGb hn hdr hx hy hc0 hc1 hc2 hc3 hk
end Go.Proofs.YtabpkohcimiceabGreat
