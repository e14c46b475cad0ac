import Derived.Test.YtabpkohcimiceabGreatAllC
import Derived.WalkKit
import Derived.WalkSpells
import Derived.WalkLawsBesides
import Derived.OwnWalk
import Derived.Laws.Rows
import Derived.Handy
import Derived.Deep.AppendLies
namespace Go.Proofs.YtabpkohcimiceabGreat
open Go.RowKit
set_option linter.unusedVariables false
set_option linter.unusedSimpArgs false

/-! ### pawllaw: takes, writes, makes -/
theorem Tryz.infoStr : (Tryz.prog.info? 9).map (fun i => (i.zero, i.size, i.bytes)) = some (some (.string ⟨#[]⟩), 1, 16) := by kernel_rfl
theorem carry_any (G : Nat) (A B : ByteArray) (v : Value) (kd who nn dr o0 o1 o2 o3 : Int) (tx ty : ByteArray) (cut : Bool) (p : ByteArray) (k : Nat) (l : List RecM) (t : List UInt8) (w : World) (hG : w.heap[G]? = some (.cells #[.string A, .string B, v] 26)) (hp : PlanOk (diskOf A B who) p k l t) (ht : t.length ≤ 100000) (hn : (-9223372036854775808 ≤ nn ∧ nn ≤ 9223372036854775807)) (hy : ty.size ≤ maxLen) :
    Calls Tryz.prog 25 #[.pointer (some ⟨G, 0, none⟩), .agg #[.int .i64 kd, .int .i64 who, .int .i64 nn, .int .i64 dr, .int .i64 o0, .int .i64 o1, .int .i64 o2, .int .i64 o3, .string tx, .string ty, .bool cut], .string p] w fun e w' => e = .returned (.tuple #[]) ∧ (∃ x : ByteArray, w'.heap[G]? = some (.cells #[.string (setA A who x), .string (setB B who x), v] 26) ∧ x.size ≤ maxLen) ∧ Only (fun b => b = G) w w' := by
  cases cut with
  | true => exact carry_cut G A B v kd who nn dr o0 o1 o2 o3 tx ty p k l t w hG hp hn hy
  | false => exact carry_plain G A B v kd who nn dr o0 o1 o2 o3 tx ty p k l t w hG hp ht
/-- What is left of a World: its disks are no longer than a text may be, its letters are a row of its own. -/
structure WAt (G base : Nat) (A B : ByteArray) (v : Value) (L : List ByteArray) (w : World) : Prop where
  blk : w.heap[G]? = some (.cells #[.string A, .string B, v] 26)
  a : A.size ≤ maxLen
  b : B.size ≤ maxLen
  row : w.ownsRow base 9 1 v L.length (txts L)
  txt : ∀ x ∈ L, x.size ≤ maxLen
theorem WAt.lt {G base : Nat} {A B : ByteArray} {v : Value} {L : List ByteArray} {w : World} (h : WAt G base A B v L w) : G < w.heap.size := by
  have hG := h.blk
  rcases Nat.lt_or_ge G w.heap.size with q | q
  · exact q
  · rw [Array.getElem?_eq_none (by exact q)] at hG; cases hG
theorem WAt.next {G base : Nat} {A B : ByteArray} {v : Value} {L : List ByteArray} {w w' : World} (h : WAt G base A B v L w) (hb : Below w.heap.size w w') : WAt G base A B v L w' :=
  ⟨(hb.block G h.lt).trans h.blk, h.a, h.b, ownsRow_below h.row hb, h.txt⟩
theorem disk_le {A B : ByteArray} (who : Int) (ha : A.size ≤ maxLen) (hb : B.size ≤ maxLen) : (diskOf A B who).size ≤ maxLen := by
  rw [diskOf]; split; exact hb; exact ha
theorem setA_le {A x : ByteArray} (who : Int) (ha : A.size ≤ maxLen) (hx : x.size ≤ maxLen) : (setA A who x).size ≤ maxLen := by
  rw [setA]; split; exact ha; exact hx
theorem setB_le {B x : ByteArray} (who : Int) (hb : B.size ≤ maxLen) (hx : x.size ≤ maxLen) : (setB B who x).size ≤ maxLen := by
  rw [setB]; split; exact hx; exact hb
/-- What a step may change. -/
def WOut (G base : Nat) (v : Value) (L : List ByteArray) (w w' : World) : Prop :=
  (∃ (A' B' : ByteArray) (v' : Value) (L' : List ByteArray), WAt G base A' B' v' L' w' ∧ L'.length ≤ L.length + 1) ∧ Only (fun b => b = G ∨ v.ownBlock = some b) w w'
theorem WOut.set {G base : Nat} {A B x : ByteArray} {v : Value} {L : List ByteArray} {w w1 : World} (who : Int) (h : WAt G base A B v L w) (hGb : G < base) (h1 : Only (fun b => b = G) w w1) (hG : w1.heap[G]? = some (.cells #[.string (setA A who x), .string (setB B who x), v] 26)) (hx : x.size ≤ maxLen) : WOut G base v L w w1 := by
  refine ⟨⟨setA A who x, setB B who x, v, L, ⟨hG, setA_le who h.a hx, setB_le who h.b hx, h1.own h.row (fun k hk q => ?_), h.txt⟩, Nat.le_succ _⟩, h1.mono (fun k _ q => .inl q)⟩
  have := (h.row.lt k hk).1
  omega
theorem WOut.same {G base : Nat} {A B : ByteArray} {v : Value} {L : List ByteArray} {w w1 : World} (h : WAt G base A B v L w) (hb : Below w.heap.size w w1) : WOut G base v L w w1 :=
  ⟨⟨A, B, v, L, h.next hb, Nat.le_succ _⟩, Only.of_below hb⟩
theorem lawNum_any (e : Int) (w : World) : Calls Tryz.prog 24 #[.int .i64 e] w fun x w' => x = .returned (.int .i64 e) ∧ w' = w := by
  go_enter Tryz.func24, Tryz.ntmps24
  go_wp2
  go_ret
  exact ⟨rfl, rfl⟩
theorem grown_blk {X w2 : World} {v : Value} {base n size : Nat} {e : TypeId} {xs : List Value} (hown : X.ownsRow base e size v n xs) (hg : X.grownBy w2 v.ownBlock) {b : Nat} (hb : b < base) (hlt : b < X.heap.size) : w2.heap[b]? = X.heap[b]? := by
  obtain ⟨_, _, _, _, g5⟩ := hg
  exact g5 b hlt (fun q => by have := (hown.lt b q.symm).1; omega)
/-! plans -/
theorem recv_planOk (d t : ByteArray) (draw : Int) (h : recvErr d.data.toList t.data.toList draw = 0) : ∃ k l, PlanOk d (str (recvPlan d.data.toList t.data.toList draw)) k l (recvTo d.data.toList t.data.toList draw) ∧ (recvTo d.data.toList t.data.toList draw).length ≤ 100000 := by
  obtain ⟨k, hD, hk, hk1, hk2, hto, hpl, r1, r2, r3⟩ := recv_safe _ _ _ h
  obtain ⟨q1, q2⟩ := recsF_ok _ _ _ _ r1
  have hl := encL_bd k _ q2
  have hlen : (recvTo d.data.toList t.data.toList draw).length = k * 32 := by
    rw [← r2 []]
    exact leftL_length _ _ _ _ _ hk (fit_of_ok q2) (Nat.le_refl _)
  refine ⟨k, _, ⟨hD, by rw [← len_list]; exact hk, hk1, hk2, ?_, by rw [str_toList]; exact r1, r2, fun m kq hm => ?_⟩, by omega⟩
  · rw [str_size, hpl]; unfold maxLen; omega
  · rcases r3 m kq hm with q | q
    · exact ⟨_, q⟩
    · exact ⟨_, q⟩
theorem send_planOk (d t : ByteArray) (h : sendErr d.data.toList t.data.toList = 0) : ∃ k l, PlanOk d (str (sendPlan d.data.toList t.data.toList)) k l (sendTo d.data.toList t.data.toList) ∧ (sendTo d.data.toList t.data.toList).length ≤ 100000 := by
  obtain ⟨k, hD, hk, hk1, hk2, hto, hpl, r1, r2, r3⟩ := send_safe _ _ h
  obtain ⟨q1, q2⟩ := recsF_ok _ _ _ _ r1
  have hl := encL_bd k _ q2
  have hlen : (sendTo d.data.toList t.data.toList).length = k * 32 := by
    rw [← r2 []]
    exact leftL_length _ _ _ _ _ hk (fit_of_ok q2) (Nat.le_refl _)
  refine ⟨k, _, ⟨hD, by rw [← len_list]; exact hk, hk1, hk2, ?_, by rw [str_toList]; exact r1, r2, fun m kq hm => ?_⟩, by omega⟩
  · rw [str_size, hpl]; unfold maxLen; omega
  · rcases r3 m kq hm with q | q
    · exact ⟨_, q⟩
    · exact ⟨_, q⟩

set_option maxRecDepth 100000 in
set_option maxHeartbeats 1000000 in
theorem takes_any (G base : Nat) (A B : ByteArray) (v : Value) (L : List ByteArray) (kd who nn dr o0 o1 o2 o3 : Int) (tx ty : ByteArray) (cut : Bool) (lt : ByteArray) (w : World) (hW : WAt G base A B v L w) (hGb : G < base) (hn : (Lit.int .i64 nn).wf = true) (hdr : (Lit.int .i64 dr).wf = true) (hx : tx.size ≤ maxLen) (hy : ty.size ≤ maxLen) (hl : lt.size ≤ maxLen) :
    Calls Tryz.prog 8 #[.pointer (some ⟨G, 0, none⟩), .agg #[.int .i64 kd, .int .i64 who, .int .i64 nn, .int .i64 dr, .int .i64 o0, .int .i64 o1, .int .i64 o2, .int .i64 o3, .string tx, .string ty, .bool cut], .string lt] w fun e w' => e = .returned (.bool true) ∧ WOut G base v L w w' := by
  have hdd := disk_le who hW.a hW.b
  have hGlt := hW.lt
  have c1 := fun w hG => wDisk_any G A B v who w hG
  have c2 := fun w => receives_walk (diskOf A B who) lt dr nn ty hdd hl hdr hn hy w
  have c3 := fun w => pawlReceive_any (diskOf A B who) lt dr w hdd hl
  have HWW := hid hW
  by_cases he : recvErr (diskOf A B who).data.toList lt.data.toList dr = 0
  · obtain ⟨k, l, hp, ht⟩ := recv_planOk (diskOf A B who) lt dr he
    have c4 := fun w hG => carry_any G A B v kd who nn dr o0 o1 o2 o3 tx ty cut (str (recvPlan (diskOf A B who).data.toList lt.data.toList dr)) k l _ w hG hp ht (wf_i64 hn) hy
    rw [he] at c3
    generalize str (recvPlan (diskOf A B who).data.toList lt.data.toList dr) = pl at *
    generalize str (recvTxt (diskOf A B who).data.toList lt.data.toList dr) = rt at *
    generalize diskOf A B who = dd at *
    clear he hp ht hdd
    go_enter Tryz.func8, Tryz.ntmps8
    go_upto_region 1 with fail
    have hO := heap_alloc_new w (.cells #[.int .i64 kd, .int .i64 who, .int .i64 nn, .int .i64 dr, .int .i64 o0, .int .i64 o1, .int .i64 o2, .int .i64 o3, .string tx, .string ty, .bool cut] 31)
    have hWa : Below w.heap.size w (w.alloc (.cells #[.int .i64 kd, .int .i64 who, .int .i64 nn, .int .i64 dr, .int .i64 o0, .int .i64 o1, .int .i64 o2, .int .i64 o3, .string tx, .string ty, .bool cut] 31)) := (Below.refl _ _).alloc (Nat.le_refl _) _
    have hlt : w.heap.size < (w.alloc (.cells #[.int .i64 kd, .int .i64 who, .int .i64 nn, .int .i64 dr, .int .i64 o0, .int .i64 o1, .int .i64 o2, .int .i64 o3, .string tx, .string ty, .bool cut] 31)).heap.size := by simp
    generalize (w.alloc (.cells #[.int .i64 kd, .int .i64 who, .int .i64 nn, .int .i64 dr, .int .i64 o0, .int .i64 o1, .int .i64 o2, .int .i64 o3, .string tx, .string ty, .bool cut] 31)) = wa at hO hWa hlt ⊢
    have HO := hid hO
    have HWa := hid hWa
    have HA := hid (hW.next hWa)
    have k1 : wa.cell? ⟨w.heap.size, 1, none⟩ = some (.int .i64 who) := cell_of_row wa _ 1 _ _ _ hO
    have k2 : wa.cell? ⟨w.heap.size, 2, none⟩ = some (.int .i64 nn) := cell_of_row wa _ 2 _ _ _ hO
    have k3 : wa.cell? ⟨w.heap.size, 3, none⟩ = some (.int .i64 dr) := cell_of_row wa _ 3 _ _ _ hO
    have k9 : wa.cell? ⟨w.heap.size, 9, none⟩ = some (.string ty) := cell_of_row wa _ 9 _ _ _ hO
    clear hO hWa
    go_upto_region 5 with (first | (go_at_call 11; go_loud (with_reducible refine (c1 _ HA.out.blk).mono ?_); rintro e w' ⟨rfl, hw⟩; rw [hw]; clear hw w') | (go_at_call 30; go_loud (with_reducible refine (c2 _).mono ?_); rintro e w2 ⟨rfl, hb2⟩))
    have HA2 := hid (HA.out.next hb2)
    have hO2 := (hb2.block w.heap.size (by omega)).trans HO.out
    have HW2 := hid (below_tr HWa.out hb2)
    have hs2 := hb2.size
    clear k1 k2 k3 k9 c1 c2 hb2
    have k3 : w2.cell? ⟨w.heap.size, 3, none⟩ = some (.int .i64 dr) := cell_of_row w2 _ 3 _ _ _ hO2
    have HO2 := hid hO2
    clear hO2
    go_upto_region 7 with (first | (go_at_call 31; go_loud (with_reducible refine (c3 _).mono ?_); rintro e w3 ⟨rfl, hb3⟩) | (go_at_call 24; go_must (with_reducible refine (lawNum_any _ _).mono ?_); rintro e w' ⟨rfl, hw⟩; rw [hw]; clear hw w'))
    have HA3 := hid (HA2.out.next hb3)
    have hO3 := (hb3.block w.heap.size (by omega)).trans HO2.out
    have HW3 := hid (below_tr HW2.out hb3)
    have hs3 := hb3.size
    clear k3 c3 hb3
    have k0 : w3.cell? ⟨w.heap.size, 0, none⟩ = some (.int .i64 kd) := cell_of_row w3 _ 0 _ _ _ hO3
    have k1 : w3.cell? ⟨w.heap.size, 1, none⟩ = some (.int .i64 who) := cell_of_row w3 _ 1 _ _ _ hO3
    have k2 : w3.cell? ⟨w.heap.size, 2, none⟩ = some (.int .i64 nn) := cell_of_row w3 _ 2 _ _ _ hO3
    have k3 : w3.cell? ⟨w.heap.size, 3, none⟩ = some (.int .i64 dr) := cell_of_row w3 _ 3 _ _ _ hO3
    have k4 : w3.cell? ⟨w.heap.size, 4, none⟩ = some (.int .i64 o0) := cell_of_row w3 _ 4 _ _ _ hO3
    have k5 : w3.cell? ⟨w.heap.size, 5, none⟩ = some (.int .i64 o1) := cell_of_row w3 _ 5 _ _ _ hO3
    have k6 : w3.cell? ⟨w.heap.size, 6, none⟩ = some (.int .i64 o2) := cell_of_row w3 _ 6 _ _ _ hO3
    have k7 : w3.cell? ⟨w.heap.size, 7, none⟩ = some (.int .i64 o3) := cell_of_row w3 _ 7 _ _ _ hO3
    have k8 : w3.cell? ⟨w.heap.size, 8, none⟩ = some (.string tx) := cell_of_row w3 _ 8 _ _ _ hO3
    have k9 : w3.cell? ⟨w.heap.size, 9, none⟩ = some (.string ty) := cell_of_row w3 _ 9 _ _ _ hO3
    have k10 : w3.cell? ⟨w.heap.size, 10, none⟩ = some (.bool cut) := cell_of_row w3 _ 10 _ _ _ hO3
    have HO3 := hid hO3
    clear hO3
    go_wp2_with (first | (go_at_call 25; go_loud (with_reducible refine (c4 _ HA3.out.blk).mono ?_); rintro e w4 ⟨rfl, ⟨x, hG4, hx⟩, hN4⟩; have HG4 := hid hG4; have HX := hid hx; have HN4 := hid hN4; clear hG4 hx hN4))
    go_ret
    exact ⟨rfl, WOut.set who HWW.out hGb ((Only.of_below HW3.out).trans HN4.out) HG4.out HX.out⟩
  · have hb0 := recvErr_bd (diskOf A B who).data.toList lt.data.toList dr
    generalize recvErr (diskOf A B who).data.toList lt.data.toList dr = E at *
    have hE : (E == 0) = false := by rw [beq_eq_false_iff_ne]; exact he
    generalize str (recvPlan (diskOf A B who).data.toList lt.data.toList dr) = pl at *
    generalize str (recvTxt (diskOf A B who).data.toList lt.data.toList dr) = rt at *
    generalize diskOf A B who = dd at *
    clear hdd
    go_enter Tryz.func8, Tryz.ntmps8
    go_upto_region 1 with fail
    have hO := heap_alloc_new w (.cells #[.int .i64 kd, .int .i64 who, .int .i64 nn, .int .i64 dr, .int .i64 o0, .int .i64 o1, .int .i64 o2, .int .i64 o3, .string tx, .string ty, .bool cut] 31)
    have hWa : Below w.heap.size w (w.alloc (.cells #[.int .i64 kd, .int .i64 who, .int .i64 nn, .int .i64 dr, .int .i64 o0, .int .i64 o1, .int .i64 o2, .int .i64 o3, .string tx, .string ty, .bool cut] 31)) := (Below.refl _ _).alloc (Nat.le_refl _) _
    have hlt : w.heap.size < (w.alloc (.cells #[.int .i64 kd, .int .i64 who, .int .i64 nn, .int .i64 dr, .int .i64 o0, .int .i64 o1, .int .i64 o2, .int .i64 o3, .string tx, .string ty, .bool cut] 31)).heap.size := by simp
    generalize (w.alloc (.cells #[.int .i64 kd, .int .i64 who, .int .i64 nn, .int .i64 dr, .int .i64 o0, .int .i64 o1, .int .i64 o2, .int .i64 o3, .string tx, .string ty, .bool cut] 31)) = wa at hO hWa hlt ⊢
    have HO := hid hO
    have HWa := hid hWa
    have HA := hid (hW.next hWa)
    have k1 : wa.cell? ⟨w.heap.size, 1, none⟩ = some (.int .i64 who) := cell_of_row wa _ 1 _ _ _ hO
    have k2 : wa.cell? ⟨w.heap.size, 2, none⟩ = some (.int .i64 nn) := cell_of_row wa _ 2 _ _ _ hO
    have k3 : wa.cell? ⟨w.heap.size, 3, none⟩ = some (.int .i64 dr) := cell_of_row wa _ 3 _ _ _ hO
    have k9 : wa.cell? ⟨w.heap.size, 9, none⟩ = some (.string ty) := cell_of_row wa _ 9 _ _ _ hO
    clear hO hWa
    go_upto_region 5 with (first | (go_at_call 11; go_loud (with_reducible refine (c1 _ HA.out.blk).mono ?_); rintro e w' ⟨rfl, hw⟩; rw [hw]; clear hw w') | (go_at_call 30; go_loud (with_reducible refine (c2 _).mono ?_); rintro e w2 ⟨rfl, hb2⟩))
    have HA2 := hid (HA.out.next hb2)
    have hO2 := (hb2.block w.heap.size (by omega)).trans HO.out
    have HW2 := hid (below_tr HWa.out hb2)
    have hs2 := hb2.size
    clear k1 k2 k3 k9 c1 c2 hb2
    have k3 : w2.cell? ⟨w.heap.size, 3, none⟩ = some (.int .i64 dr) := cell_of_row w2 _ 3 _ _ _ hO2
    have HO2 := hid hO2
    clear hO2
    go_wp2_with (first | (go_at_call 31; go_loud (with_reducible refine (c3 _).mono ?_); rintro e w3 ⟨rfl, hb3⟩) | (go_at_call 24; go_must (with_reducible refine (lawNum_any _ _).mono ?_); rintro e w' ⟨rfl, hw⟩; rw [hw]; clear hw w'))
    go_ret
    exact ⟨rfl, WOut.same HWW.out (below_tr HW2.out hb3)⟩

set_option maxRecDepth 100000 in
set_option maxHeartbeats 1000000 in
theorem wWrites_any (G base : Nat) (A B : ByteArray) (v : Value) (L : List ByteArray) (kd who nn dr o0 o1 o2 o3 : Int) (tx ty : ByteArray) (cut : Bool) (w : World) (hW : WAt G base A B v L w) (hGb : G < base) (hbase : base ≤ w.heap.size) (hLb : (L.length + 1) * 16 ≤ 140737488355328) (hn : (Lit.int .i64 nn).wf = true) (hdr : (Lit.int .i64 dr).wf = true) (hx : tx.size ≤ maxLen) (hy : ty.size ≤ maxLen) :
    Calls Tryz.prog 7 #[.pointer (some ⟨G, 0, none⟩), .agg #[.int .i64 kd, .int .i64 who, .int .i64 nn, .int .i64 dr, .int .i64 o0, .int .i64 o1, .int .i64 o2, .int .i64 o3, .string tx, .string ty, .bool cut]] w fun e w' => e = .returned (.bool true) ∧ WOut G base v L w w' := by
  obtain ⟨i0, hi0, hz0, hz1, hz2⟩ := info_parts Tryz.infoStr
  obtain ⟨xa, xc, hxv⟩ := txtForm hW.row
  subst hxv
  have hdd := disk_le who hW.a hW.b
  have hGlt := hW.lt
  have c1 := fun w hG => wDisk_any G A B (.slice xa L.length xc) who w hG
  have c2 := fun w => sends_walk (diskOf A B who) tx nn ty hdd hx hn hy w
  have c3 := fun w => pawlSend_any (diskOf A B who) tx w hdd
  have HWW := hid hW
  by_cases he : sendErr (diskOf A B who).data.toList tx.data.toList = 0
  · obtain ⟨k, l, hp, ht⟩ := send_planOk (diskOf A B who) tx he
    have c4 := fun w hG => carry_any G A B (.slice xa L.length xc) kd who nn dr o0 o1 o2 o3 tx ty cut (str (sendPlan (diskOf A B who).data.toList tx.data.toList)) k l _ w hG hp ht (wf_i64 hn) hy
    have hlt0 : (str (sendLet (diskOf A B who).data.toList tx.data.toList)).size ≤ maxLen := by
      obtain ⟨_, h40, _⟩ := send_ok _ _ he
      rw [str_size, sendLet, if_pos he, letL, List.length_append, headB_length, sealL_length]
      unfold maxLen; omega
    rw [he] at c3
    generalize str (sendPlan (diskOf A B who).data.toList tx.data.toList) = pl at *
    generalize str (sendLet (diskOf A B who).data.toList tx.data.toList) = lx at *
    generalize diskOf A B who = dd at *
    have HLX := hid hlt0
    clear he hp ht hdd hlt0
    go_enter Tryz.func7, Tryz.ntmps7
    go_upto_region 1 with fail
    have hO := heap_alloc_new w (.cells #[.int .i64 kd, .int .i64 who, .int .i64 nn, .int .i64 dr, .int .i64 o0, .int .i64 o1, .int .i64 o2, .int .i64 o3, .string tx, .string ty, .bool cut] 31)
    have hWa : Below w.heap.size w (w.alloc (.cells #[.int .i64 kd, .int .i64 who, .int .i64 nn, .int .i64 dr, .int .i64 o0, .int .i64 o1, .int .i64 o2, .int .i64 o3, .string tx, .string ty, .bool cut] 31)) := (Below.refl _ _).alloc (Nat.le_refl _) _
    have hlt : w.heap.size < (w.alloc (.cells #[.int .i64 kd, .int .i64 who, .int .i64 nn, .int .i64 dr, .int .i64 o0, .int .i64 o1, .int .i64 o2, .int .i64 o3, .string tx, .string ty, .bool cut] 31)).heap.size := by simp
    generalize (w.alloc (.cells #[.int .i64 kd, .int .i64 who, .int .i64 nn, .int .i64 dr, .int .i64 o0, .int .i64 o1, .int .i64 o2, .int .i64 o3, .string tx, .string ty, .bool cut] 31)) = wa at hO hWa hlt ⊢
    have HO := hid hO
    have HWa := hid hWa
    have HA := hid (hW.next hWa)
    have k1 : wa.cell? ⟨w.heap.size, 1, none⟩ = some (.int .i64 who) := cell_of_row wa _ 1 _ _ _ hO
    have k2 : wa.cell? ⟨w.heap.size, 2, none⟩ = some (.int .i64 nn) := cell_of_row wa _ 2 _ _ _ hO
    have k8 : wa.cell? ⟨w.heap.size, 8, none⟩ = some (.string tx) := cell_of_row wa _ 8 _ _ _ hO
    have k9 : wa.cell? ⟨w.heap.size, 9, none⟩ = some (.string ty) := cell_of_row wa _ 9 _ _ _ hO
    clear hO hWa
    go_upto_region 5 with (first | (go_at_call 11; go_loud (with_reducible refine (c1 _ HA.out.blk).mono ?_); rintro e w' ⟨rfl, hw⟩; rw [hw]; clear hw w') | (go_at_call 28; go_loud (with_reducible refine (c2 _).mono ?_); rintro e w2 ⟨rfl, hb2⟩))
    have HA2 := hid (HA.out.next hb2)
    have hO2 := (hb2.block w.heap.size (by omega)).trans HO.out
    have HW2 := hid (below_tr HWa.out hb2)
    have hs2 := hb2.size
    clear k1 k2 k8 k9 c1 c2 hb2
    have k8 : w2.cell? ⟨w.heap.size, 8, none⟩ = some (.string tx) := cell_of_row w2 _ 8 _ _ _ hO2
    have HO2 := hid hO2
    clear hO2
    go_upto_region 7 with (first | (go_at_call 29; go_loud (with_reducible refine (c3 _).mono ?_); rintro e w3 ⟨rfl, hb3⟩) | (go_at_call 24; go_must (with_reducible refine (lawNum_any _ _).mono ?_); rintro e w' ⟨rfl, hw⟩; rw [hw]; clear hw w'))
    have HA3 := hid (HA2.out.next hb3)
    have hO3 := (hb3.block w.heap.size (by omega)).trans HO2.out
    have HW3 := hid (below_tr HW2.out hb3)
    have hs3 := hb3.size
    clear k8 c3 hb3
    have k0 : w3.cell? ⟨w.heap.size, 0, none⟩ = some (.int .i64 kd) := cell_of_row w3 _ 0 _ _ _ hO3
    have k1 : w3.cell? ⟨w.heap.size, 1, none⟩ = some (.int .i64 who) := cell_of_row w3 _ 1 _ _ _ hO3
    have k2 : w3.cell? ⟨w.heap.size, 2, none⟩ = some (.int .i64 nn) := cell_of_row w3 _ 2 _ _ _ hO3
    have k3 : w3.cell? ⟨w.heap.size, 3, none⟩ = some (.int .i64 dr) := cell_of_row w3 _ 3 _ _ _ hO3
    have k4 : w3.cell? ⟨w.heap.size, 4, none⟩ = some (.int .i64 o0) := cell_of_row w3 _ 4 _ _ _ hO3
    have k5 : w3.cell? ⟨w.heap.size, 5, none⟩ = some (.int .i64 o1) := cell_of_row w3 _ 5 _ _ _ hO3
    have k6 : w3.cell? ⟨w.heap.size, 6, none⟩ = some (.int .i64 o2) := cell_of_row w3 _ 6 _ _ _ hO3
    have k7 : w3.cell? ⟨w.heap.size, 7, none⟩ = some (.int .i64 o3) := cell_of_row w3 _ 7 _ _ _ hO3
    have k8 : w3.cell? ⟨w.heap.size, 8, none⟩ = some (.string tx) := cell_of_row w3 _ 8 _ _ _ hO3
    have k9 : w3.cell? ⟨w.heap.size, 9, none⟩ = some (.string ty) := cell_of_row w3 _ 9 _ _ _ hO3
    have k10 : w3.cell? ⟨w.heap.size, 10, none⟩ = some (.bool cut) := cell_of_row w3 _ 10 _ _ _ hO3
    have HO3 := hid hO3
    clear hO3
    go_upto_region 8 with (first | (go_at_call 25; go_loud (with_reducible refine (c4 _ HA3.out.blk).mono ?_); rintro e w4 ⟨rfl, ⟨x, hG4, hx4⟩, hN4⟩))
    have hsz4 := hN4.size
    have hO4 := (hN4.block w.heap.size (by omega) (fun q => by omega)).trans HO3.out
    have hr4 := hN4.own HA3.out.row (fun q hq h => by have := (HA3.out.row.lt q hq).1; omega)
    have HN4 := hid ((Only.of_below HW3.out).trans hN4)
    have HX := hid hx4
    have z10 : w4.cell? ⟨w.heap.size, 10, none⟩ = some (.bool cut) := cell_of_row w4 _ 10 _ _ _ hO4
    have z2 : w4.cell? ⟨G, 2, none⟩ = some (.slice xa L.length xc) := cell_of_row w4 _ 2 _ _ _ hG4
    have HG4 := hid hG4
    clear k0 k1 k2 k3 k4 k5 k6 k7 k8 k9 k10 hN4 hO4 c4 hx4
    cases cut with
    | true =>
      clear hr4
      go_wp2
      go_ret
      exact ⟨rfl, WOut.set who HWW.out hGb HN4.out HG4.out HX.out⟩
    | false =>
      clear hG4
      go_upto_region 10 with (first | (at_builtin; go_loud (refine wpList_append_lies _ rfl (.tmp 46) (.tmp 48) _ rfl base 9 i0 _ 1 16 Tryz.underlying24 hi0 hz0 hz1 hz2 rfl (by omega) _ L.length (txts L) rfl (hr4.alloc _) ⟨w4.heap.size, 0, none⟩ 1 1 [.string lx] rfl rfl (World.news_of_block (cs := #[.string lx]) (t := 9) (fr := (0, 0)) (heap_alloc_new _ _)) (by simp [Value.oneCell']) (by omega) (by unfold maxLen; omega) (by omega) (by simp; omega) (w4.heap.size + 1) (by simp) ?_); intro g2 cap2 w5 hown5 hgrow hat hlt5; have hG5 := (grown_blk (hr4.alloc _) hgrow hGb (by simp; omega)).trans ((Below.heap_alloc _ _ _ (by omega)).trans HG4.out); have y2 : w5.cell? ⟨G, 2, none⟩ = some (.slice xa L.length xc) := cell_of_row w5 _ 2 _ _ _ hG5; have fG : ∀ j, w5.frozen? ⟨G, j, none⟩ = false := fun j => frozen_of_row w5 _ j _ _ hG5; have HG5 := hid hG5; clear hG5))
      have HN5 : Hid (Only (fun b => b = G ∨ (Value.slice xa L.length xc).ownBlock = some b) w w5) := ((HN4.out.mono (fun k _ q => .inl q)).then ((Below.refl _ _).alloc (Nat.le_refl _) _)).grown hgrow (fun k hk _ => .inr hk)
      clear y2 fG z2 z10
      have hB6 : (w5.setCell ⟨G, 2, none⟩ (.slice (some ⟨g2, 0, none⟩) (L.length + 1) cap2)).heap[G]? = some (.cells #[.string (setA A who x), .string (setB B who x), .slice (some ⟨g2, 0, none⟩) (L.length + 1) cap2] 26) := heap_setCell_same _ _ _ _ _ _ HG5.out
      have hR6 : (w5.setCell ⟨G, 2, none⟩ (.slice (some ⟨g2, 0, none⟩) (L.length + 1) cap2)).ownsRow base 9 1 (.slice (some ⟨g2, 0, none⟩) (L.length + 1) cap2) (L.length + 1) (txts L ++ [.string lx]) := ownsRow_setCell_below hown5 (by exact hGb) _
      have hN6 : Only (fun b => b = G ∨ (Value.slice xa L.length xc).ownBlock = some b) w (w5.setCell ⟨G, 2, none⟩ (.slice (some ⟨g2, 0, none⟩) (L.length + 1) cap2)) := HN5.out.set (b := G) (.inl rfl) _
      generalize (w5.setCell ⟨G, 2, none⟩ (.slice (some ⟨g2, 0, none⟩) (L.length + 1) cap2)) = w6 at hB6 hR6 hN6 ⊢
      have HB6 := hid hB6
      have HR6 := hid hR6
      have HN6 := hid hN6
      clear hB6 hR6 hN6 hown5 hgrow hat hr4
      go_wp2
      go_ret
      refine ⟨rfl, ⟨setA A who x, setB B who x, _, L ++ [lx], ⟨HB6.out, setA_le who HWW.out.a HX.out, setB_le who HWW.out.b HX.out, ?_, fun y hy => ?_⟩, by simp⟩, HN6.out⟩
      · have e1 : txts (L ++ [lx]) = txts L ++ [.string lx] := by rw [txts, List.map_append]; rfl
        rw [e1, List.length_append]; exact HR6.out
      · rcases List.mem_append.1 hy with q | q
        · exact HWW.out.txt y q
        · rw [List.mem_singleton.1 q]; exact HLX.out
  · generalize sendErr (diskOf A B who).data.toList tx.data.toList = E at *
    have hE : (E == 0) = false := by rw [beq_eq_false_iff_ne]; exact he
    generalize str (sendPlan (diskOf A B who).data.toList tx.data.toList) = pl at *
    generalize str (sendLet (diskOf A B who).data.toList tx.data.toList) = lx at *
    generalize diskOf A B who = dd at *
    clear hdd
    go_enter Tryz.func7, Tryz.ntmps7
    go_upto_region 1 with fail
    have hO := heap_alloc_new w (.cells #[.int .i64 kd, .int .i64 who, .int .i64 nn, .int .i64 dr, .int .i64 o0, .int .i64 o1, .int .i64 o2, .int .i64 o3, .string tx, .string ty, .bool cut] 31)
    have hWa : Below w.heap.size w (w.alloc (.cells #[.int .i64 kd, .int .i64 who, .int .i64 nn, .int .i64 dr, .int .i64 o0, .int .i64 o1, .int .i64 o2, .int .i64 o3, .string tx, .string ty, .bool cut] 31)) := (Below.refl _ _).alloc (Nat.le_refl _) _
    have hlt : w.heap.size < (w.alloc (.cells #[.int .i64 kd, .int .i64 who, .int .i64 nn, .int .i64 dr, .int .i64 o0, .int .i64 o1, .int .i64 o2, .int .i64 o3, .string tx, .string ty, .bool cut] 31)).heap.size := by simp
    generalize (w.alloc (.cells #[.int .i64 kd, .int .i64 who, .int .i64 nn, .int .i64 dr, .int .i64 o0, .int .i64 o1, .int .i64 o2, .int .i64 o3, .string tx, .string ty, .bool cut] 31)) = wa at hO hWa hlt ⊢
    have HO := hid hO
    have HWa := hid hWa
    have HA := hid (hW.next hWa)
    have k1 : wa.cell? ⟨w.heap.size, 1, none⟩ = some (.int .i64 who) := cell_of_row wa _ 1 _ _ _ hO
    have k2 : wa.cell? ⟨w.heap.size, 2, none⟩ = some (.int .i64 nn) := cell_of_row wa _ 2 _ _ _ hO
    have k8 : wa.cell? ⟨w.heap.size, 8, none⟩ = some (.string tx) := cell_of_row wa _ 8 _ _ _ hO
    have k9 : wa.cell? ⟨w.heap.size, 9, none⟩ = some (.string ty) := cell_of_row wa _ 9 _ _ _ hO
    clear hO hWa
    go_upto_region 5 with (first | (go_at_call 11; go_loud (with_reducible refine (c1 _ HA.out.blk).mono ?_); rintro e w' ⟨rfl, hw⟩; rw [hw]; clear hw w') | (go_at_call 28; go_loud (with_reducible refine (c2 _).mono ?_); rintro e w2 ⟨rfl, hb2⟩))
    have HA2 := hid (HA.out.next hb2)
    have hO2 := (hb2.block w.heap.size (by omega)).trans HO.out
    have HW2 := hid (below_tr HWa.out hb2)
    have hs2 := hb2.size
    clear k1 k2 k8 k9 c1 c2 hb2
    have k8 : w2.cell? ⟨w.heap.size, 8, none⟩ = some (.string tx) := cell_of_row w2 _ 8 _ _ _ hO2
    have HO2 := hid hO2
    clear hO2
    go_wp2_with (first | (go_at_call 29; go_loud (with_reducible refine (c3 _).mono ?_); rintro e w3 ⟨rfl, hb3⟩) | (go_at_call 24; go_must (with_reducible refine (lawNum_any _ _).mono ?_); rintro e w' ⟨rfl, hw⟩; rw [hw]; clear hw w'))
    go_ret
    exact ⟨rfl, WOut.same HWW.out (below_tr HW2.out hb3)⟩
end Go.Proofs.YtabpkohcimiceabGreat
