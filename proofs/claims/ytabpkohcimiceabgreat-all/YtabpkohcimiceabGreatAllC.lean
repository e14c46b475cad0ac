import Derived.Test.YtabpkohcimiceabGreatAllB
import Derived.WalkKit
import Derived.WalkSpells
import Derived.WalkLawsBesides
import Derived.OwnWalk
import Derived.Laws.Rows
import Derived.Handy
import Derived.RegionTactic
import Derived.Deep.RegionHeld3
import Derived.Deep.DeepMust
import Derived.Deep.DeepCutAuto
namespace Go.Proofs.YtabpkohcimiceabGreat
open Go.RowKit
set_option linter.unusedVariables false
set_option linter.unusedSimpArgs false

/-! ### pawllaw: poked, carry -/
attribute [local go_sem] str_one_size

set_option maxRecDepth 100000 in
set_option maxHeartbeats 1000000 in
theorem poked_any (s : ByteArray) (n c : Int) (w : World) (hs : s.size ≤ maxLen) (hn : (-9223372036854775808 ≤ n ∧ n ≤ 9223372036854775807)) (hc : (-9223372036854775808 ≤ c ∧ c ≤ 9223372036854775807)) :
    Calls Tryz.prog 21 #[.string s, .int .i64 n, .int .i64 c] w fun e w' => (∃ x : ByteArray, e = .returned (.string x) ∧ x.size ≤ maxLen) ∧ Below w.heap.size w w' := by
  by_cases h0 : s.size = 0
  · have i0 : ((s.size : Int) == 0) = true := by rw [beq_iff_eq]; omega
    go_enter Tryz.func21, Tryz.ntmps21
    go_wp2
    go_ret
    exact ⟨⟨s, rfl, hs⟩, Below.refl _ _⟩
  · have i0 : ((s.size : Int) == 0) = false := by rw [beq_eq_false_iff_ne]; omega
    have HS : Hid (s.size ≤ maxLen) := hs
    unfold maxLen at hs
    have c1 := fun w => lawPick_any n (s.size : Int) w hn.1 hn.2 (by omega) (by omega)
    obtain ⟨b0, b1⟩ := pickN_bd n (s.size : Int) (by omega)
    obtain ⟨i, hi⟩ := Int.eq_ofNat_of_zero_le b0
    rw [hi] at c1 b1
    have kc := conv1
    have i1 : (0 : Int) ≤ (i : Int) := by omega
    have i2 : (i : Int) + 1 ≤ (s.size : Int) := by omega
    have i3 : IntKind.i64.wrap ((i : Int) + 1) = (i : Int) + 1 := by rw [IntKind.wrap_i64]; omega
    have i4 : (0 : Int) ≤ (i : Int) + 1 := by omega
    have i5 : (i : Int) ≤ (s.size : Int) := by omega
    have hmin : min i s.size = i := by omega
    have r1 : ¬ 9223372036854775807 < i + 1 := by omega
    have r2 : ¬ 9223372036854775807 < i + 1 + (s.size - (i + 1)) := by omega
    have tn : ((i : Int) + 1).toNat = i + 1 := by omega
    have HI : Hid (i < s.size) := by
      show i < s.size
      omega
    have kd : ∀ (w : World) (a : Int), (convert 80 9 (.slice (some ⟨w.heap.size, 0, none⟩) 1 1)).run Tryz.prog (w.alloc (.cells #[.int .u8 a] 5)).drew = .ok (.string (str [UInt8.ofNat a.toNat])) (w.alloc (.cells #[.int .u8 a] 5)).drew := fun w a => conv1 w.drew a
    clear hi b0 hn hc
    go_enter Tryz.func21, Tryz.ntmps21
    go_upto_region 4 with (first | (go_at_call 20; go_loud (with_reducible refine (c1 _).mono ?_); rintro e w' ⟨rfl, hw⟩; rw [hw]; clear hw w'))
    go_region
    go_wp2
    go_ret
    refine ⟨⟨_, rfl, ?_⟩, ?_⟩
    · have h1 := HS.out
      have h2 := HI.out
      simp [ByteArray.size_append, ByteArray.size_extract, str_size]
      omega
    · repeat (first | exact Below.refl _ _ | apply Below.drew | (refine Below.alloc ?_ (by first | exact Nat.le_refl _ | (simp; done) | (simp; omega)) _))
/-- A plan that the program has made: it is one, where it leads, and what it leaves can be repaired. -/
structure PlanOk (d p : ByteArray) (k : Nat) (l : List RecM) (t : List UInt8) : Prop where
  disk : isDiskL d.data.toList = true
  size : d.size = k * 32
  k1 : 1 ≤ k
  k2 : k ≤ 40
  small : p.size ≤ maxLen
  recs : recsL p.data.toList k = some l
  done : ∀ kq, leftL d.data.toList l l.length kq = t
  mid : ∀ m kq, m ≤ l.length → ∃ r, repairR (leftL d.data.toList l m kq) = (r, 0)
theorem rec_plan (x : ByteArray) (r : List UInt8) (k : Nat) (hk : x.size = k * 32) (hk1 : 1 ≤ k) (hk2 : k ≤ 40) (hr : repairR x.data.toList = (r, 0)) (w : World) :
    Calls Tryz.prog 27 #[.string x] w fun e w' => e = .returned (.tuple #[.string (str (encL (changesR x.data.toList r 0 k))), .int .i64 0]) ∧ Below w.heap.size w w' := by
  have h := pawlRecover_any x w (by unfold maxLen; omega)
  rw [recPlan, hr, if_pos rfl, len_list, hk, show k * 32 / 32 = k by omega, changesL_enc] at h
  exact h
theorem left_size {d p : ByteArray} {k : Nat} {l : List RecM} {t : List UInt8} (h : PlanOk d p k l t) (m : Nat) (kq : List UInt8) (hm : m ≤ l.length) : (leftL d.data.toList l m kq).length = k * 32 :=
  leftL_length _ _ _ _ _ (by rw [len_list]; exact h.size) (fit_of_ok (recsF_ok _ _ _ _ h.recs).2) hm

set_option maxRecDepth 100000 in
set_option maxHeartbeats 1000000 in
theorem carry_plain (G : Nat) (A B : ByteArray) (v : Value) (kd who nn dr o0 o1 o2 o3 : Int) (tx ty : ByteArray) (p : ByteArray) (k : Nat) (l : List RecM) (t : List UInt8) (w : World) (hG : w.heap[G]? = some (.cells #[.string A, .string B, v] 26)) (hp : PlanOk (diskOf A B who) p k l t) (ht : t.length ≤ 100000) :
    Calls Tryz.prog 25 #[.pointer (some ⟨G, 0, none⟩), .agg #[.int .i64 kd, .int .i64 who, .int .i64 nn, .int .i64 dr, .int .i64 o0, .int .i64 o1, .int .i64 o2, .int .i64 o3, .string tx, .string ty, .bool false], .string p] w fun e w' => e = .returned (.tuple #[]) ∧ (∃ x : ByteArray, w'.heap[G]? = some (.cells #[.string (setA A who x), .string (setB B who x), v] 26) ∧ x.size ≤ maxLen) ∧ Only (fun b => b = G) w w' := by
  have hG0 := hG
  have hGlt : G < w.heap.size := by
    rcases Nat.lt_or_ge G w.heap.size with q | q
    · exact q
    · rw [Array.getElem?_eq_none (by exact q)] at hG; cases hG
  have c1 := fun w hG => wDisk_any G A B v who w hG
  have c2 := fun w => done_any (diskOf A B who) p (str t) l k ⟨#[]⟩ w hp.disk hp.size hp.k2 hp.small hp.recs (by decide) (by rw [str_toList]; exact hp.done)
  have c3 := fun w hG => wSet_any G A B (str t) v who w hG
  have HT : Hid ((str t).size ≤ maxLen) := by
    show _ ≤ _
    rw [str_size]; unfold maxLen; omega
  generalize str t = tt at *
  generalize diskOf A B who = dd at *
  clear hp hG0
  go_enter Tryz.func25, Tryz.ntmps25
  go_upto_region 1 with fail
  have hO := heap_alloc_new w (.cells #[.int .i64 kd, .int .i64 who, .int .i64 nn, .int .i64 dr, .int .i64 o0, .int .i64 o1, .int .i64 o2, .int .i64 o3, .string tx, .string ty, .bool false] 31)
  have hGa : (w.alloc (.cells #[.int .i64 kd, .int .i64 who, .int .i64 nn, .int .i64 dr, .int .i64 o0, .int .i64 o1, .int .i64 o2, .int .i64 o3, .string tx, .string ty, .bool false] 31)).heap[G]? = some (.cells #[.string A, .string B, v] 26) := (Below.heap_alloc _ _ _ hGlt).trans hG
  have hWa : Below w.heap.size w (w.alloc (.cells #[.int .i64 kd, .int .i64 who, .int .i64 nn, .int .i64 dr, .int .i64 o0, .int .i64 o1, .int .i64 o2, .int .i64 o3, .string tx, .string ty, .bool false] 31)) := (Below.refl _ _).alloc (Nat.le_refl _) _
  have hlt : w.heap.size < (w.alloc (.cells #[.int .i64 kd, .int .i64 who, .int .i64 nn, .int .i64 dr, .int .i64 o0, .int .i64 o1, .int .i64 o2, .int .i64 o3, .string tx, .string ty, .bool false] 31)).heap.size := by simp
  generalize (w.alloc (.cells #[.int .i64 kd, .int .i64 who, .int .i64 nn, .int .i64 dr, .int .i64 o0, .int .i64 o1, .int .i64 o2, .int .i64 o3, .string tx, .string ty, .bool false] 31)) = wa at hO hGa hWa hlt ⊢
  have HO := hid hO
  have HGa := hid hGa
  have HWa := hid hWa
  have k1 : wa.cell? ⟨w.heap.size, 1, none⟩ = some (.int .i64 who) := cell_of_row wa _ 1 _ _ _ hO
  have k10 : wa.cell? ⟨w.heap.size, 10, none⟩ = some (.bool false) := cell_of_row wa _ 10 _ _ _ hO
  clear hO hGa hWa hG
  go_upto_region 4 with (first | (go_at_call 11; go_loud (with_reducible refine (c1 _ HGa.out).mono ?_); rintro e w' ⟨rfl, hw⟩; rw [hw]; clear hw w') | (go_at_call 61; go_loud (with_reducible refine (c2 _).mono ?_); rintro e w2 ⟨rfl, hb2⟩))
  have hG2 := (hb2.block G (by omega)).trans HGa.out
  have hO2 := (hb2.block w.heap.size hlt).trans HO.out
  have z1 : w2.cell? ⟨w.heap.size, 1, none⟩ = some (.int .i64 who) := cell_of_row w2 _ 1 _ _ _ hO2
  have HG2 := hid hG2
  have HN : Hid (Only (fun b => b = G) w w2) := Only.of_below (below_tr HWa.out hb2)
  clear k1 k10 hb2 hG2 hO2 c1 c2
  go_wp2_with (first | (go_at_call 18; go_loud (with_reducible refine (c3 _ HG2.out).mono ?_); rintro e w3 ⟨rfl, hG3, hN3⟩; have HG3 := hid hG3; have HN3 := hid hN3; clear hG3 hN3))
  go_returns
  exact ⟨rfl, ⟨_, HG3.out, HT.out⟩, HN.out.trans HN3.out⟩

set_option maxRecDepth 100000 in
set_option maxHeartbeats 1000000 in
theorem carry_cut (G : Nat) (A B : ByteArray) (v : Value) (kd who nn dr o0 o1 o2 o3 : Int) (tx ty : ByteArray) (p : ByteArray) (k : Nat) (l : List RecM) (t : List UInt8) (w : World) (hG : w.heap[G]? = some (.cells #[.string A, .string B, v] 26)) (hp : PlanOk (diskOf A B who) p k l t) (hn : (-9223372036854775808 ≤ nn ∧ nn ≤ 9223372036854775807)) (hy : ty.size ≤ maxLen) :
    Calls Tryz.prog 25 #[.pointer (some ⟨G, 0, none⟩), .agg #[.int .i64 kd, .int .i64 who, .int .i64 nn, .int .i64 dr, .int .i64 o0, .int .i64 o1, .int .i64 o2, .int .i64 o3, .string tx, .string ty, .bool true], .string p] w fun e w' => e = .returned (.tuple #[]) ∧ (∃ x : ByteArray, w'.heap[G]? = some (.cells #[.string (setA A who x), .string (setB B who x), v] 26) ∧ x.size ≤ maxLen) ∧ Only (fun b => b = G) w w' := by
  have hG0 := hG
  have hGlt : G < w.heap.size := by
    rcases Nat.lt_or_ge G w.heap.size with q | q
    · exact q
    · rw [Array.getElem?_eq_none (by exact q)] at hG; cases hG
  have c1 := fun w hG => wDisk_any G A B v who w hG
  have c2 := fun w => failed_any (diskOf A B who) p l k nn ty w hp.disk hp.size hp.k2 hp.small hp.recs hn.1 hn.2 hy
  have hmid : ∀ m kq, m ≤ l.length → ∃ (y pl z : ByteArray), y = str (leftL (diskOf A B who).data.toList l m kq) ∧ (∀ w, Calls Tryz.prog 27 #[.string y] w fun e w' => e = .returned (.tuple #[.string pl, .int .i64 0]) ∧ Below w.heap.size w w') ∧ (∀ w, Calls Tryz.prog 61 #[.string y, .string pl, .string ⟨#[]⟩] w fun e w' => e = .returned (.tuple #[.string z, .bool true]) ∧ Below w.heap.size w w') ∧ z.size ≤ maxLen := by
    intro m kq hm
    obtain ⟨r, hr⟩ := hp.mid m kq hm
    have hsz := left_size hp m kq hm
    have hk1 := hp.k1
    have hk2 := hp.k2
    generalize leftL (diskOf A B who).data.toList l m kq = y at *
    obtain ⟨s1, s2, s3⟩ := rec_safe y r k hsz hk1 hk2 hr
    have hy1 : (str y).size = k * 32 := by rw [str_size]; exact hsz
    obtain ⟨q1, q2⟩ := recsF_ok _ _ _ _ s1
    have hpl : (str (encL (changesR y r 0 k))).size ≤ maxLen := by
      rw [str_size]
      have := encL_len k _ q2
      unfold maxLen; omega
    have hrl : r.length = k * 32 := by
      rw [← s2 []]
      exact leftL_length _ _ _ _ _ hsz (fit_of_ok q2) (Nat.le_refl _)
    refine ⟨str y, str (encL (changesR y r 0 k)), str r, rfl, fun w => ?_, fun w => ?_, by rw [str_size]; unfold maxLen; omega⟩
    · have := rec_plan (str y) r k hy1 hk1 hk2 (by rw [str_toList]; exact hr) w
      rw [str_toList] at this
      exact this
    · exact done_any (str y) (str (encL (changesR y r 0 k))) (str r) (changesR y r 0 k) k ⟨#[]⟩ w (by rw [str_toList]; exact disk_of_len y k hsz hk1 hk2) hy1 hk2 hpl (by rw [str_toList]; exact s1) (by decide) (by rw [str_toList, str_toList]; exact s2)
  have c3 := fun x w hG => wSet_any G A B x v who w hG
  generalize diskOf A B who = dd at *
  clear hp hG0
  go_enter Tryz.func25, Tryz.ntmps25
  go_upto_region 1 with fail
  have hO := heap_alloc_new w (.cells #[.int .i64 kd, .int .i64 who, .int .i64 nn, .int .i64 dr, .int .i64 o0, .int .i64 o1, .int .i64 o2, .int .i64 o3, .string tx, .string ty, .bool true] 31)
  have hGa : (w.alloc (.cells #[.int .i64 kd, .int .i64 who, .int .i64 nn, .int .i64 dr, .int .i64 o0, .int .i64 o1, .int .i64 o2, .int .i64 o3, .string tx, .string ty, .bool true] 31)).heap[G]? = some (.cells #[.string A, .string B, v] 26) := (Below.heap_alloc _ _ _ hGlt).trans hG
  have hWa : Below w.heap.size w (w.alloc (.cells #[.int .i64 kd, .int .i64 who, .int .i64 nn, .int .i64 dr, .int .i64 o0, .int .i64 o1, .int .i64 o2, .int .i64 o3, .string tx, .string ty, .bool true] 31)) := (Below.refl _ _).alloc (Nat.le_refl _) _
  have hlt : w.heap.size < (w.alloc (.cells #[.int .i64 kd, .int .i64 who, .int .i64 nn, .int .i64 dr, .int .i64 o0, .int .i64 o1, .int .i64 o2, .int .i64 o3, .string tx, .string ty, .bool true] 31)).heap.size := by simp
  generalize (w.alloc (.cells #[.int .i64 kd, .int .i64 who, .int .i64 nn, .int .i64 dr, .int .i64 o0, .int .i64 o1, .int .i64 o2, .int .i64 o3, .string tx, .string ty, .bool true] 31)) = wa at hO hGa hWa hlt ⊢
  have HO := hid hO
  have HGa := hid hGa
  have HWa := hid hWa
  have k1 : wa.cell? ⟨w.heap.size, 1, none⟩ = some (.int .i64 who) := cell_of_row wa _ 1 _ _ _ hO
  have k2 : wa.cell? ⟨w.heap.size, 2, none⟩ = some (.int .i64 nn) := cell_of_row wa _ 2 _ _ _ hO
  have k9 : wa.cell? ⟨w.heap.size, 9, none⟩ = some (.string ty) := cell_of_row wa _ 9 _ _ _ hO
  have k10 : wa.cell? ⟨w.heap.size, 10, none⟩ = some (.bool true) := cell_of_row wa _ 10 _ _ _ hO
  clear hO hGa hWa hG
  go_upto_region 6 with (first | (go_at_call 11; go_loud (with_reducible refine (c1 _ HGa.out).mono ?_); rintro e w' ⟨rfl, hw⟩; rw [hw]; clear hw w') | (go_at_call 62; go_loud (with_reducible refine (c2 _).mono ?_); rintro e w2 ⟨⟨m, kq, hm, rfl⟩, hb2⟩))
  obtain ⟨y, pl, z, hy0, cR, cD, hz⟩ := hmid m kq hm
  rw [← hy0]
  have hsz2 := hb2.size
  have HG2 := hid ((hb2.block G (by omega)).trans HGa.out)
  have HO2 := hid ((hb2.block w.heap.size hlt).trans HO.out)
  have HN : Hid (Only (fun b => b = G) w w2) := Only.of_below (below_tr HWa.out hb2)
  have HZ := hid hz
  clear k1 k2 k9 k10 hb2 c1 c2 hmid hy0 hm hz
  go_upto_region 8 with (first | (go_at_call 27; go_loud (with_reducible refine (cR _).mono ?_); rintro e w3 ⟨rfl, hb3⟩) | (go_at_call 61; go_loud (with_reducible refine (cD _).mono ?_); rintro e w4 ⟨rfl, hb4⟩))
  have hsz3 := hb3.size
  have HG4 := hid ((hb4.block G (by omega)).trans ((hb3.block G (by omega)).trans HG2.out))
  have hO4 := (hb4.block w.heap.size (by omega)).trans ((hb3.block w.heap.size (by omega)).trans HO2.out)
  have z1 : w4.cell? ⟨w.heap.size, 1, none⟩ = some (.int .i64 who) := cell_of_row w4 _ 1 _ _ _ hO4
  have HN4 : Hid (Only (fun b => b = G) w w4) := (HN.out.then hb3).then hb4
  clear hO4 hb3 hb4 cR cD
  go_wp2_with (first | (go_at_call 18; go_loud (with_reducible refine (c3 _ _ HG4.out).mono ?_); rintro e w5 ⟨rfl, hG5, hN5⟩; have HG5 := hid hG5; have HN5 := hid hN5; clear hG5 hN5))
  go_returns
  exact ⟨rfl, ⟨_, HG5.out, HZ.out⟩, HN4.out.trans HN5.out⟩
end Go.Proofs.YtabpkohcimiceabGreat
