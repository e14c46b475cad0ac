import Derived.Test.YtabpkohcimiceabGreatAllF
import Derived.WalkKit
import Derived.WalkSpells
import Derived.WalkLawsBesides
import Derived.OwnWalk
import Derived.Laws.Rows
import Derived.Handy
import Derived.Deep.RegionHeld3
import Derived.Deep.DeepMust
import Derived.Deep.DeepCutAuto
namespace Go.Proofs.YtabpkohcimiceabGreat
open Go.RowKit
set_option linter.unusedVariables false
set_option linter.unusedSimpArgs false

/-! ### pawllaw: step -/
theorem WOut.after {G base : Nat} {v : Value} {L : List ByteArray} {w w2 w3 : World} (hb : Below w.heap.size w w2) (h : WOut G base v L w2 w3) : WOut G base v L w w3 := ⟨h.1, (Only.of_below hb).trans h.2⟩

set_option maxRecDepth 100000 in
set_option maxHeartbeats 1000000 in
theorem step_create (G base : Nat) (A B : ByteArray) (v : Value) (L : List ByteArray) (kd who nn dr o0 o1 o2 o3 : Int) (tx ty : ByteArray) (cut : Bool) (w : World) (hW : WAt G base A B v L w) (hGb : G < base) (hbase : base ≤ w.heap.size) (hLb : (L.length + 1) * 16 ≤ 140737488355328) (hn : (Lit.int .i64 nn).wf = true) (hdr : (Lit.int .i64 dr).wf = true) (hx : tx.size ≤ maxLen) (hy : ty.size ≤ maxLen) (hc0 : (Lit.int .i64 o0).wf = true) (hc1 : (Lit.int .i64 o1).wf = true) (hc2 : (Lit.int .i64 o2).wf = true) (hc3 : (Lit.int .i64 o3).wf = true) (h1 : kd ≠ 1) (h2 : kd ≠ 2) (h3 : kd ≠ 3) (h8 : kd ≠ 8) (hk : kd = 4) :
    Calls Tryz.prog 4 #[.pointer (some ⟨G, 0, none⟩), .agg #[.int .i64 kd, .int .i64 who, .int .i64 nn, .int .i64 dr, .int .i64 o0, .int .i64 o1, .int .i64 o2, .int .i64 o3, .string tx, .string ty, .bool cut]] w fun e w' => e = .returned (.bool true) ∧ WOut G base v L w w' := by
  have hGlt := hW.lt
  have HWW := hid hW
  have hro : ∀ k, v.ownBlock = some k → k < w.heap.size := fun k q => (hW.row.lt k q).2
  have HRO := hid hro
  have c0 := fun (w0 : World) (hb : w.heap.size ≤ w0.heap.size) (hA : WAt G base A B v L w0) => given_none G base A B v L kd who nn dr o0 o1 o2 o3 tx ty cut w0 hA hGb (by omega) hLb hn hdr hx hy h1 h2 h3 h8
  have c2 := fun w0 hA => makes_any G base A B v L kd who nn dr o0 o1 o2 o3 tx ty cut w0 hA hGb hn hdr hx hy hc0 hc1 hc2 hc3
  have nk : (kd == 4) = true := by rw [beq_iff_eq]; exact hk
  clear hk
  clear h1 h2 h3 h8 hro
  go_enter Tryz.func4, Tryz.ntmps4
  go_upto_region 1 with fail
  have hO := heap_alloc_new w (.cells #[.int .i64 kd, .int .i64 who, .int .i64 nn, .int .i64 dr, .int .i64 o0, .int .i64 o1, .int .i64 o2, .int .i64 o3, .string tx, .string ty, .bool cut] 31)
  have hWa : Below w.heap.size w (w.alloc (.cells #[.int .i64 kd, .int .i64 who, .int .i64 nn, .int .i64 dr, .int .i64 o0, .int .i64 o1, .int .i64 o2, .int .i64 o3, .string tx, .string ty, .bool cut] 31)) := (Below.refl _ _).alloc (Nat.le_refl _) _
  have hlt : w.heap.size < (w.alloc (.cells #[.int .i64 kd, .int .i64 who, .int .i64 nn, .int .i64 dr, .int .i64 o0, .int .i64 o1, .int .i64 o2, .int .i64 o3, .string tx, .string ty, .bool cut] 31)).heap.size := by simp
  generalize (w.alloc (.cells #[.int .i64 kd, .int .i64 who, .int .i64 nn, .int .i64 dr, .int .i64 o0, .int .i64 o1, .int .i64 o2, .int .i64 o3, .string tx, .string ty, .bool cut] 31)) = wa at hO hWa hlt ⊢
  have HO := hid hO
  have HWa := hid hWa
  have HA := hid (hW.next hWa)
  have k0 : wa.cell? ⟨w.heap.size, 0, none⟩ = some (.int .i64 kd) := cell_of_row wa _ 0 _ _ _ hO
  have k1 : wa.cell? ⟨w.heap.size, 1, none⟩ = some (.int .i64 who) := cell_of_row wa _ 1 _ _ _ hO
  have k2 : wa.cell? ⟨w.heap.size, 2, none⟩ = some (.int .i64 nn) := cell_of_row wa _ 2 _ _ _ hO
  have k3 : wa.cell? ⟨w.heap.size, 3, none⟩ = some (.int .i64 dr) := cell_of_row wa _ 3 _ _ _ hO
  have k4 : wa.cell? ⟨w.heap.size, 4, none⟩ = some (.int .i64 o0) := cell_of_row wa _ 4 _ _ _ hO
  have k5 : wa.cell? ⟨w.heap.size, 5, none⟩ = some (.int .i64 o1) := cell_of_row wa _ 5 _ _ _ hO
  have k6 : wa.cell? ⟨w.heap.size, 6, none⟩ = some (.int .i64 o2) := cell_of_row wa _ 6 _ _ _ hO
  have k7 : wa.cell? ⟨w.heap.size, 7, none⟩ = some (.int .i64 o3) := cell_of_row wa _ 7 _ _ _ hO
  have k8 : wa.cell? ⟨w.heap.size, 8, none⟩ = some (.string tx) := cell_of_row wa _ 8 _ _ _ hO
  have k9 : wa.cell? ⟨w.heap.size, 9, none⟩ = some (.string ty) := cell_of_row wa _ 9 _ _ _ hO
  have k10 : wa.cell? ⟨w.heap.size, 10, none⟩ = some (.bool cut) := cell_of_row wa _ 10 _ _ _ hO
  clear hO hWa
  go_upto_region 4 with (first | (go_at_call 5; go_loud (with_reducible refine (c0 _ (by omega) HA.out).mono ?_); rintro e w2 ⟨rfl, hb2⟩))
  have HA2 := hid (HA.out.next hb2)
  have hO2 := (hb2.block w.heap.size (by omega)).trans HO.out
  have HW2 := hid (below_tr HWa.out hb2)
  have hs2 := hb2.size
  clear k0 k1 k2 k3 k4 k5 k6 k7 k8 k9 k10 c0 hb2
  have k0 : w2.cell? ⟨w.heap.size, 0, none⟩ = some (.int .i64 kd) := cell_of_row w2 _ 0 _ _ _ hO2
  have k1 : w2.cell? ⟨w.heap.size, 1, none⟩ = some (.int .i64 who) := cell_of_row w2 _ 1 _ _ _ hO2
  have k2 : w2.cell? ⟨w.heap.size, 2, none⟩ = some (.int .i64 nn) := cell_of_row w2 _ 2 _ _ _ hO2
  have k3 : w2.cell? ⟨w.heap.size, 3, none⟩ = some (.int .i64 dr) := cell_of_row w2 _ 3 _ _ _ hO2
  have k4 : w2.cell? ⟨w.heap.size, 4, none⟩ = some (.int .i64 o0) := cell_of_row w2 _ 4 _ _ _ hO2
  have k5 : w2.cell? ⟨w.heap.size, 5, none⟩ = some (.int .i64 o1) := cell_of_row w2 _ 5 _ _ _ hO2
  have k6 : w2.cell? ⟨w.heap.size, 6, none⟩ = some (.int .i64 o2) := cell_of_row w2 _ 6 _ _ _ hO2
  have k7 : w2.cell? ⟨w.heap.size, 7, none⟩ = some (.int .i64 o3) := cell_of_row w2 _ 7 _ _ _ hO2
  have k8 : w2.cell? ⟨w.heap.size, 8, none⟩ = some (.string tx) := cell_of_row w2 _ 8 _ _ _ hO2
  have k9 : w2.cell? ⟨w.heap.size, 9, none⟩ = some (.string ty) := cell_of_row w2 _ 9 _ _ _ hO2
  have k10 : w2.cell? ⟨w.heap.size, 10, none⟩ = some (.bool cut) := cell_of_row w2 _ 10 _ _ _ hO2
  have HO2 := hid hO2
  clear hO2
  go_wp2_with (first | (go_at_call 6; go_loud (with_reducible refine (c2 _ HA2.out).mono ?_); rintro e w3 ⟨rfl, ho3⟩; have HO3 := hid ho3; clear ho3))
  go_ret
  exact ⟨rfl, WOut.after HW2.out HO3.out⟩

set_option maxRecDepth 100000 in
set_option maxHeartbeats 1000000 in
theorem step_recover (G base : Nat) (A B : ByteArray) (v : Value) (L : List ByteArray) (kd who nn dr o0 o1 o2 o3 : Int) (tx ty : ByteArray) (cut : Bool) (w : World) (hW : WAt G base A B v L w) (hGb : G < base) (hbase : base ≤ w.heap.size) (hLb : (L.length + 1) * 16 ≤ 140737488355328) (hn : (Lit.int .i64 nn).wf = true) (hdr : (Lit.int .i64 dr).wf = true) (hx : tx.size ≤ maxLen) (hy : ty.size ≤ maxLen) (hc0 : (Lit.int .i64 o0).wf = true) (hc1 : (Lit.int .i64 o1).wf = true) (hc2 : (Lit.int .i64 o2).wf = true) (hc3 : (Lit.int .i64 o3).wf = true) (h1 : kd ≠ 1) (h2 : kd ≠ 2) (h3 : kd ≠ 3) (h8 : kd ≠ 8) (hk : kd = 10) :
    Calls Tryz.prog 4 #[.pointer (some ⟨G, 0, none⟩), .agg #[.int .i64 kd, .int .i64 who, .int .i64 nn, .int .i64 dr, .int .i64 o0, .int .i64 o1, .int .i64 o2, .int .i64 o3, .string tx, .string ty, .bool cut]] w fun e w' => e = .returned (.bool true) ∧ WOut G base v L w w' := by
  have hGlt := hW.lt
  have HWW := hid hW
  have hro : ∀ k, v.ownBlock = some k → k < w.heap.size := fun k q => (hW.row.lt k q).2
  have HRO := hid hro
  have c0 := fun (w0 : World) (hb : w.heap.size ≤ w0.heap.size) (hA : WAt G base A B v L w0) => given_none G base A B v L kd who nn dr o0 o1 o2 o3 tx ty cut w0 hA hGb (by omega) hLb hn hdr hx hy h1 h2 h3 h8
  have c2 := fun w0 hA => makes_any G base A B v L kd who nn dr o0 o1 o2 o3 tx ty cut w0 hA hGb hn hdr hx hy hc0 hc1 hc2 hc3
  have n4 : (kd == 4) = false := by rw [beq_eq_false_iff_ne]; omega
  have nk : (kd == 10) = true := by rw [beq_iff_eq]; exact hk
  clear hk
  clear h1 h2 h3 h8 hro
  go_enter Tryz.func4, Tryz.ntmps4
  go_upto_region 1 with fail
  have hO := heap_alloc_new w (.cells #[.int .i64 kd, .int .i64 who, .int .i64 nn, .int .i64 dr, .int .i64 o0, .int .i64 o1, .int .i64 o2, .int .i64 o3, .string tx, .string ty, .bool cut] 31)
  have hWa : Below w.heap.size w (w.alloc (.cells #[.int .i64 kd, .int .i64 who, .int .i64 nn, .int .i64 dr, .int .i64 o0, .int .i64 o1, .int .i64 o2, .int .i64 o3, .string tx, .string ty, .bool cut] 31)) := (Below.refl _ _).alloc (Nat.le_refl _) _
  have hlt : w.heap.size < (w.alloc (.cells #[.int .i64 kd, .int .i64 who, .int .i64 nn, .int .i64 dr, .int .i64 o0, .int .i64 o1, .int .i64 o2, .int .i64 o3, .string tx, .string ty, .bool cut] 31)).heap.size := by simp
  generalize (w.alloc (.cells #[.int .i64 kd, .int .i64 who, .int .i64 nn, .int .i64 dr, .int .i64 o0, .int .i64 o1, .int .i64 o2, .int .i64 o3, .string tx, .string ty, .bool cut] 31)) = wa at hO hWa hlt ⊢
  have HO := hid hO
  have HWa := hid hWa
  have HA := hid (hW.next hWa)
  have k0 : wa.cell? ⟨w.heap.size, 0, none⟩ = some (.int .i64 kd) := cell_of_row wa _ 0 _ _ _ hO
  have k1 : wa.cell? ⟨w.heap.size, 1, none⟩ = some (.int .i64 who) := cell_of_row wa _ 1 _ _ _ hO
  have k2 : wa.cell? ⟨w.heap.size, 2, none⟩ = some (.int .i64 nn) := cell_of_row wa _ 2 _ _ _ hO
  have k3 : wa.cell? ⟨w.heap.size, 3, none⟩ = some (.int .i64 dr) := cell_of_row wa _ 3 _ _ _ hO
  have k4 : wa.cell? ⟨w.heap.size, 4, none⟩ = some (.int .i64 o0) := cell_of_row wa _ 4 _ _ _ hO
  have k5 : wa.cell? ⟨w.heap.size, 5, none⟩ = some (.int .i64 o1) := cell_of_row wa _ 5 _ _ _ hO
  have k6 : wa.cell? ⟨w.heap.size, 6, none⟩ = some (.int .i64 o2) := cell_of_row wa _ 6 _ _ _ hO
  have k7 : wa.cell? ⟨w.heap.size, 7, none⟩ = some (.int .i64 o3) := cell_of_row wa _ 7 _ _ _ hO
  have k8 : wa.cell? ⟨w.heap.size, 8, none⟩ = some (.string tx) := cell_of_row wa _ 8 _ _ _ hO
  have k9 : wa.cell? ⟨w.heap.size, 9, none⟩ = some (.string ty) := cell_of_row wa _ 9 _ _ _ hO
  have k10 : wa.cell? ⟨w.heap.size, 10, none⟩ = some (.bool cut) := cell_of_row wa _ 10 _ _ _ hO
  clear hO hWa
  go_upto_region 4 with (first | (go_at_call 5; go_loud (with_reducible refine (c0 _ (by omega) HA.out).mono ?_); rintro e w2 ⟨rfl, hb2⟩))
  have HA2 := hid (HA.out.next hb2)
  have hO2 := (hb2.block w.heap.size (by omega)).trans HO.out
  have HW2 := hid (below_tr HWa.out hb2)
  have hs2 := hb2.size
  clear k0 k1 k2 k3 k4 k5 k6 k7 k8 k9 k10 c0 hb2
  have k0 : w2.cell? ⟨w.heap.size, 0, none⟩ = some (.int .i64 kd) := cell_of_row w2 _ 0 _ _ _ hO2
  have k1 : w2.cell? ⟨w.heap.size, 1, none⟩ = some (.int .i64 who) := cell_of_row w2 _ 1 _ _ _ hO2
  have k2 : w2.cell? ⟨w.heap.size, 2, none⟩ = some (.int .i64 nn) := cell_of_row w2 _ 2 _ _ _ hO2
  have k3 : w2.cell? ⟨w.heap.size, 3, none⟩ = some (.int .i64 dr) := cell_of_row w2 _ 3 _ _ _ hO2
  have k4 : w2.cell? ⟨w.heap.size, 4, none⟩ = some (.int .i64 o0) := cell_of_row w2 _ 4 _ _ _ hO2
  have k5 : w2.cell? ⟨w.heap.size, 5, none⟩ = some (.int .i64 o1) := cell_of_row w2 _ 5 _ _ _ hO2
  have k6 : w2.cell? ⟨w.heap.size, 6, none⟩ = some (.int .i64 o2) := cell_of_row w2 _ 6 _ _ _ hO2
  have k7 : w2.cell? ⟨w.heap.size, 7, none⟩ = some (.int .i64 o3) := cell_of_row w2 _ 7 _ _ _ hO2
  have k8 : w2.cell? ⟨w.heap.size, 8, none⟩ = some (.string tx) := cell_of_row w2 _ 8 _ _ _ hO2
  have k9 : w2.cell? ⟨w.heap.size, 9, none⟩ = some (.string ty) := cell_of_row w2 _ 9 _ _ _ hO2
  have k10 : w2.cell? ⟨w.heap.size, 10, none⟩ = some (.bool cut) := cell_of_row w2 _ 10 _ _ _ hO2
  have HO2 := hid hO2
  clear hO2
  go_wp2_with (first | (go_at_call 6; go_loud (with_reducible refine (c2 _ HA2.out).mono ?_); rintro e w3 ⟨rfl, ho3⟩; have HO3 := hid ho3; clear ho3))
  go_ret
  exact ⟨rfl, WOut.after HW2.out HO3.out⟩

set_option maxRecDepth 100000 in
set_option maxHeartbeats 1000000 in
theorem step_send (G base : Nat) (A B : ByteArray) (v : Value) (L : List ByteArray) (kd who nn dr o0 o1 o2 o3 : Int) (tx ty : ByteArray) (cut : Bool) (w : World) (hW : WAt G base A B v L w) (hGb : G < base) (hbase : base ≤ w.heap.size) (hLb : (L.length + 1) * 16 ≤ 140737488355328) (hn : (Lit.int .i64 nn).wf = true) (hdr : (Lit.int .i64 dr).wf = true) (hx : tx.size ≤ maxLen) (hy : ty.size ≤ maxLen) (hc0 : (Lit.int .i64 o0).wf = true) (hc1 : (Lit.int .i64 o1).wf = true) (hc2 : (Lit.int .i64 o2).wf = true) (hc3 : (Lit.int .i64 o3).wf = true) (h1 : kd ≠ 1) (h2 : kd ≠ 2) (h3 : kd ≠ 3) (h8 : kd ≠ 8) (hk : kd = 5) :
    Calls Tryz.prog 4 #[.pointer (some ⟨G, 0, none⟩), .agg #[.int .i64 kd, .int .i64 who, .int .i64 nn, .int .i64 dr, .int .i64 o0, .int .i64 o1, .int .i64 o2, .int .i64 o3, .string tx, .string ty, .bool cut]] w fun e w' => e = .returned (.bool true) ∧ WOut G base v L w w' := by
  have hGlt := hW.lt
  have HWW := hid hW
  have hro : ∀ k, v.ownBlock = some k → k < w.heap.size := fun k q => (hW.row.lt k q).2
  have HRO := hid hro
  have c0 := fun (w0 : World) (hb : w.heap.size ≤ w0.heap.size) (hA : WAt G base A B v L w0) => given_none G base A B v L kd who nn dr o0 o1 o2 o3 tx ty cut w0 hA hGb (by omega) hLb hn hdr hx hy h1 h2 h3 h8
  have c2 := fun w0 (hb : w.heap.size ≤ w0.heap.size) hA => wWrites_any G base A B v L kd who nn dr o0 o1 o2 o3 tx ty cut w0 hA hGb (by omega) hLb hn hdr hx hy
  have n4 : (kd == 4) = false := by rw [beq_eq_false_iff_ne]; omega
  have n10 : (kd == 10) = false := by rw [beq_eq_false_iff_ne]; omega
  have nk : (kd == 5) = true := by rw [beq_iff_eq]; exact hk
  clear hk
  clear h1 h2 h3 h8 hro
  go_enter Tryz.func4, Tryz.ntmps4
  go_upto_region 1 with fail
  have hO := heap_alloc_new w (.cells #[.int .i64 kd, .int .i64 who, .int .i64 nn, .int .i64 dr, .int .i64 o0, .int .i64 o1, .int .i64 o2, .int .i64 o3, .string tx, .string ty, .bool cut] 31)
  have hWa : Below w.heap.size w (w.alloc (.cells #[.int .i64 kd, .int .i64 who, .int .i64 nn, .int .i64 dr, .int .i64 o0, .int .i64 o1, .int .i64 o2, .int .i64 o3, .string tx, .string ty, .bool cut] 31)) := (Below.refl _ _).alloc (Nat.le_refl _) _
  have hlt : w.heap.size < (w.alloc (.cells #[.int .i64 kd, .int .i64 who, .int .i64 nn, .int .i64 dr, .int .i64 o0, .int .i64 o1, .int .i64 o2, .int .i64 o3, .string tx, .string ty, .bool cut] 31)).heap.size := by simp
  generalize (w.alloc (.cells #[.int .i64 kd, .int .i64 who, .int .i64 nn, .int .i64 dr, .int .i64 o0, .int .i64 o1, .int .i64 o2, .int .i64 o3, .string tx, .string ty, .bool cut] 31)) = wa at hO hWa hlt ⊢
  have HO := hid hO
  have HWa := hid hWa
  have HA := hid (hW.next hWa)
  have k0 : wa.cell? ⟨w.heap.size, 0, none⟩ = some (.int .i64 kd) := cell_of_row wa _ 0 _ _ _ hO
  have k1 : wa.cell? ⟨w.heap.size, 1, none⟩ = some (.int .i64 who) := cell_of_row wa _ 1 _ _ _ hO
  have k2 : wa.cell? ⟨w.heap.size, 2, none⟩ = some (.int .i64 nn) := cell_of_row wa _ 2 _ _ _ hO
  have k3 : wa.cell? ⟨w.heap.size, 3, none⟩ = some (.int .i64 dr) := cell_of_row wa _ 3 _ _ _ hO
  have k4 : wa.cell? ⟨w.heap.size, 4, none⟩ = some (.int .i64 o0) := cell_of_row wa _ 4 _ _ _ hO
  have k5 : wa.cell? ⟨w.heap.size, 5, none⟩ = some (.int .i64 o1) := cell_of_row wa _ 5 _ _ _ hO
  have k6 : wa.cell? ⟨w.heap.size, 6, none⟩ = some (.int .i64 o2) := cell_of_row wa _ 6 _ _ _ hO
  have k7 : wa.cell? ⟨w.heap.size, 7, none⟩ = some (.int .i64 o3) := cell_of_row wa _ 7 _ _ _ hO
  have k8 : wa.cell? ⟨w.heap.size, 8, none⟩ = some (.string tx) := cell_of_row wa _ 8 _ _ _ hO
  have k9 : wa.cell? ⟨w.heap.size, 9, none⟩ = some (.string ty) := cell_of_row wa _ 9 _ _ _ hO
  have k10 : wa.cell? ⟨w.heap.size, 10, none⟩ = some (.bool cut) := cell_of_row wa _ 10 _ _ _ hO
  clear hO hWa
  go_upto_region 4 with (first | (go_at_call 5; go_loud (with_reducible refine (c0 _ (by omega) HA.out).mono ?_); rintro e w2 ⟨rfl, hb2⟩))
  have HA2 := hid (HA.out.next hb2)
  have hO2 := (hb2.block w.heap.size (by omega)).trans HO.out
  have HW2 := hid (below_tr HWa.out hb2)
  have hs2 := hb2.size
  clear k0 k1 k2 k3 k4 k5 k6 k7 k8 k9 k10 c0 hb2
  have k0 : w2.cell? ⟨w.heap.size, 0, none⟩ = some (.int .i64 kd) := cell_of_row w2 _ 0 _ _ _ hO2
  have k1 : w2.cell? ⟨w.heap.size, 1, none⟩ = some (.int .i64 who) := cell_of_row w2 _ 1 _ _ _ hO2
  have k2 : w2.cell? ⟨w.heap.size, 2, none⟩ = some (.int .i64 nn) := cell_of_row w2 _ 2 _ _ _ hO2
  have k3 : w2.cell? ⟨w.heap.size, 3, none⟩ = some (.int .i64 dr) := cell_of_row w2 _ 3 _ _ _ hO2
  have k4 : w2.cell? ⟨w.heap.size, 4, none⟩ = some (.int .i64 o0) := cell_of_row w2 _ 4 _ _ _ hO2
  have k5 : w2.cell? ⟨w.heap.size, 5, none⟩ = some (.int .i64 o1) := cell_of_row w2 _ 5 _ _ _ hO2
  have k6 : w2.cell? ⟨w.heap.size, 6, none⟩ = some (.int .i64 o2) := cell_of_row w2 _ 6 _ _ _ hO2
  have k7 : w2.cell? ⟨w.heap.size, 7, none⟩ = some (.int .i64 o3) := cell_of_row w2 _ 7 _ _ _ hO2
  have k8 : w2.cell? ⟨w.heap.size, 8, none⟩ = some (.string tx) := cell_of_row w2 _ 8 _ _ _ hO2
  have k9 : w2.cell? ⟨w.heap.size, 9, none⟩ = some (.string ty) := cell_of_row w2 _ 9 _ _ _ hO2
  have k10 : w2.cell? ⟨w.heap.size, 10, none⟩ = some (.bool cut) := cell_of_row w2 _ 10 _ _ _ hO2
  have HO2 := hid hO2
  clear hO2
  go_wp2_with (first | (go_at_call 7; go_loud (with_reducible refine (c2 _ (by omega) HA2.out).mono ?_); rintro e w3 ⟨rfl, ho3⟩; have HO3 := hid ho3; clear ho3))
  go_ret
  exact ⟨rfl, WOut.after HW2.out HO3.out⟩

set_option maxRecDepth 100000 in
set_option maxHeartbeats 1000000 in
theorem step_raw (G base : Nat) (A B : ByteArray) (v : Value) (L : List ByteArray) (kd who nn dr o0 o1 o2 o3 : Int) (tx ty : ByteArray) (cut : Bool) (w : World) (hW : WAt G base A B v L w) (hGb : G < base) (hbase : base ≤ w.heap.size) (hLb : (L.length + 1) * 16 ≤ 140737488355328) (hn : (Lit.int .i64 nn).wf = true) (hdr : (Lit.int .i64 dr).wf = true) (hx : tx.size ≤ maxLen) (hy : ty.size ≤ maxLen) (hc0 : (Lit.int .i64 o0).wf = true) (hc1 : (Lit.int .i64 o1).wf = true) (hc2 : (Lit.int .i64 o2).wf = true) (hc3 : (Lit.int .i64 o3).wf = true) (h1 : kd ≠ 1) (h2 : kd ≠ 2) (h3 : kd ≠ 3) (h8 : kd ≠ 8) (hk : kd = 7) :
    Calls Tryz.prog 4 #[.pointer (some ⟨G, 0, none⟩), .agg #[.int .i64 kd, .int .i64 who, .int .i64 nn, .int .i64 dr, .int .i64 o0, .int .i64 o1, .int .i64 o2, .int .i64 o3, .string tx, .string ty, .bool cut]] w fun e w' => e = .returned (.bool true) ∧ WOut G base v L w w' := by
  have hGlt := hW.lt
  have HWW := hid hW
  have hro : ∀ k, v.ownBlock = some k → k < w.heap.size := fun k q => (hW.row.lt k q).2
  have HRO := hid hro
  have c0 := fun (w0 : World) (hb : w.heap.size ≤ w0.heap.size) (hA : WAt G base A B v L w0) => given_none G base A B v L kd who nn dr o0 o1 o2 o3 tx ty cut w0 hA hGb (by omega) hLb hn hdr hx hy h1 h2 h3 h8
  have c2 := fun w0 hA => takes_any G base A B v L kd who nn dr o0 o1 o2 o3 tx ty cut tx w0 hA hGb hn hdr hx hy hx
  have n4 : (kd == 4) = false := by rw [beq_eq_false_iff_ne]; omega
  have n10 : (kd == 10) = false := by rw [beq_eq_false_iff_ne]; omega
  have n5 : (kd == 5) = false := by rw [beq_eq_false_iff_ne]; omega
  have n6 : (kd == 6) = false := by rw [beq_eq_false_iff_ne]; omega
  have nk : (kd == 7) = true := by rw [beq_iff_eq]; exact hk
  clear hk
  clear h1 h2 h3 h8 hro
  go_enter Tryz.func4, Tryz.ntmps4
  go_upto_region 1 with fail
  have hO := heap_alloc_new w (.cells #[.int .i64 kd, .int .i64 who, .int .i64 nn, .int .i64 dr, .int .i64 o0, .int .i64 o1, .int .i64 o2, .int .i64 o3, .string tx, .string ty, .bool cut] 31)
  have hWa : Below w.heap.size w (w.alloc (.cells #[.int .i64 kd, .int .i64 who, .int .i64 nn, .int .i64 dr, .int .i64 o0, .int .i64 o1, .int .i64 o2, .int .i64 o3, .string tx, .string ty, .bool cut] 31)) := (Below.refl _ _).alloc (Nat.le_refl _) _
  have hlt : w.heap.size < (w.alloc (.cells #[.int .i64 kd, .int .i64 who, .int .i64 nn, .int .i64 dr, .int .i64 o0, .int .i64 o1, .int .i64 o2, .int .i64 o3, .string tx, .string ty, .bool cut] 31)).heap.size := by simp
  generalize (w.alloc (.cells #[.int .i64 kd, .int .i64 who, .int .i64 nn, .int .i64 dr, .int .i64 o0, .int .i64 o1, .int .i64 o2, .int .i64 o3, .string tx, .string ty, .bool cut] 31)) = wa at hO hWa hlt ⊢
  have HO := hid hO
  have HWa := hid hWa
  have HA := hid (hW.next hWa)
  have k0 : wa.cell? ⟨w.heap.size, 0, none⟩ = some (.int .i64 kd) := cell_of_row wa _ 0 _ _ _ hO
  have k1 : wa.cell? ⟨w.heap.size, 1, none⟩ = some (.int .i64 who) := cell_of_row wa _ 1 _ _ _ hO
  have k2 : wa.cell? ⟨w.heap.size, 2, none⟩ = some (.int .i64 nn) := cell_of_row wa _ 2 _ _ _ hO
  have k3 : wa.cell? ⟨w.heap.size, 3, none⟩ = some (.int .i64 dr) := cell_of_row wa _ 3 _ _ _ hO
  have k4 : wa.cell? ⟨w.heap.size, 4, none⟩ = some (.int .i64 o0) := cell_of_row wa _ 4 _ _ _ hO
  have k5 : wa.cell? ⟨w.heap.size, 5, none⟩ = some (.int .i64 o1) := cell_of_row wa _ 5 _ _ _ hO
  have k6 : wa.cell? ⟨w.heap.size, 6, none⟩ = some (.int .i64 o2) := cell_of_row wa _ 6 _ _ _ hO
  have k7 : wa.cell? ⟨w.heap.size, 7, none⟩ = some (.int .i64 o3) := cell_of_row wa _ 7 _ _ _ hO
  have k8 : wa.cell? ⟨w.heap.size, 8, none⟩ = some (.string tx) := cell_of_row wa _ 8 _ _ _ hO
  have k9 : wa.cell? ⟨w.heap.size, 9, none⟩ = some (.string ty) := cell_of_row wa _ 9 _ _ _ hO
  have k10 : wa.cell? ⟨w.heap.size, 10, none⟩ = some (.bool cut) := cell_of_row wa _ 10 _ _ _ hO
  clear hO hWa
  go_upto_region 4 with (first | (go_at_call 5; go_loud (with_reducible refine (c0 _ (by omega) HA.out).mono ?_); rintro e w2 ⟨rfl, hb2⟩))
  have HA2 := hid (HA.out.next hb2)
  have hO2 := (hb2.block w.heap.size (by omega)).trans HO.out
  have HW2 := hid (below_tr HWa.out hb2)
  have hs2 := hb2.size
  clear k0 k1 k2 k3 k4 k5 k6 k7 k8 k9 k10 c0 hb2
  have k0 : w2.cell? ⟨w.heap.size, 0, none⟩ = some (.int .i64 kd) := cell_of_row w2 _ 0 _ _ _ hO2
  have k1 : w2.cell? ⟨w.heap.size, 1, none⟩ = some (.int .i64 who) := cell_of_row w2 _ 1 _ _ _ hO2
  have k2 : w2.cell? ⟨w.heap.size, 2, none⟩ = some (.int .i64 nn) := cell_of_row w2 _ 2 _ _ _ hO2
  have k3 : w2.cell? ⟨w.heap.size, 3, none⟩ = some (.int .i64 dr) := cell_of_row w2 _ 3 _ _ _ hO2
  have k4 : w2.cell? ⟨w.heap.size, 4, none⟩ = some (.int .i64 o0) := cell_of_row w2 _ 4 _ _ _ hO2
  have k5 : w2.cell? ⟨w.heap.size, 5, none⟩ = some (.int .i64 o1) := cell_of_row w2 _ 5 _ _ _ hO2
  have k6 : w2.cell? ⟨w.heap.size, 6, none⟩ = some (.int .i64 o2) := cell_of_row w2 _ 6 _ _ _ hO2
  have k7 : w2.cell? ⟨w.heap.size, 7, none⟩ = some (.int .i64 o3) := cell_of_row w2 _ 7 _ _ _ hO2
  have k8 : w2.cell? ⟨w.heap.size, 8, none⟩ = some (.string tx) := cell_of_row w2 _ 8 _ _ _ hO2
  have k9 : w2.cell? ⟨w.heap.size, 9, none⟩ = some (.string ty) := cell_of_row w2 _ 9 _ _ _ hO2
  have k10 : w2.cell? ⟨w.heap.size, 10, none⟩ = some (.bool cut) := cell_of_row w2 _ 10 _ _ _ hO2
  have HO2 := hid hO2
  clear hO2
  go_wp2_with (first | (go_at_call 8; go_loud (with_reducible refine (c2 _ HA2.out).mono ?_); rintro e w3 ⟨rfl, ho3⟩; have HO3 := hid ho3; clear ho3))
  go_ret
  exact ⟨rfl, WOut.after HW2.out HO3.out⟩

set_option maxRecDepth 100000 in
set_option maxHeartbeats 1000000 in
theorem step_look (G base : Nat) (A B : ByteArray) (v : Value) (L : List ByteArray) (kd who nn dr o0 o1 o2 o3 : Int) (tx ty : ByteArray) (cut : Bool) (w : World) (hW : WAt G base A B v L w) (hGb : G < base) (hbase : base ≤ w.heap.size) (hLb : (L.length + 1) * 16 ≤ 140737488355328) (hn : (Lit.int .i64 nn).wf = true) (hdr : (Lit.int .i64 dr).wf = true) (hx : tx.size ≤ maxLen) (hy : ty.size ≤ maxLen) (hc0 : (Lit.int .i64 o0).wf = true) (hc1 : (Lit.int .i64 o1).wf = true) (hc2 : (Lit.int .i64 o2).wf = true) (hc3 : (Lit.int .i64 o3).wf = true) (h1 : kd ≠ 1) (h2 : kd ≠ 2) (h3 : kd ≠ 3) (h8 : kd ≠ 8) (hk : kd = 9) :
    Calls Tryz.prog 4 #[.pointer (some ⟨G, 0, none⟩), .agg #[.int .i64 kd, .int .i64 who, .int .i64 nn, .int .i64 dr, .int .i64 o0, .int .i64 o1, .int .i64 o2, .int .i64 o3, .string tx, .string ty, .bool cut]] w fun e w' => e = .returned (.bool true) ∧ WOut G base v L w w' := by
  have hGlt := hW.lt
  have HWW := hid hW
  have hro : ∀ k, v.ownBlock = some k → k < w.heap.size := fun k q => (hW.row.lt k q).2
  have HRO := hid hro
  have c0 := fun (w0 : World) (hb : w.heap.size ≤ w0.heap.size) (hA : WAt G base A B v L w0) => given_none G base A B v L kd who nn dr o0 o1 o2 o3 tx ty cut w0 hA hGb (by omega) hLb hn hdr hx hy h1 h2 h3 h8
  have hdd := disk_le who hW.a hW.b
  have c1 := fun w hG => wDisk_any G A B v who w hG
  have c2 := fun w => looked_any (diskOf A B who) w hdd
  have n4 : (kd == 4) = false := by rw [beq_eq_false_iff_ne]; omega
  have n10 : (kd == 10) = false := by rw [beq_eq_false_iff_ne]; omega
  have n5 : (kd == 5) = false := by rw [beq_eq_false_iff_ne]; omega
  have n6 : (kd == 6) = false := by rw [beq_eq_false_iff_ne]; omega
  have n7 : (kd == 7) = false := by rw [beq_eq_false_iff_ne]; omega
  have nk : (kd == 9) = true := by rw [beq_iff_eq]; exact hk
  clear hk
  clear h1 h2 h3 h8 hro
  go_enter Tryz.func4, Tryz.ntmps4
  go_upto_region 1 with fail
  have hO := heap_alloc_new w (.cells #[.int .i64 kd, .int .i64 who, .int .i64 nn, .int .i64 dr, .int .i64 o0, .int .i64 o1, .int .i64 o2, .int .i64 o3, .string tx, .string ty, .bool cut] 31)
  have hWa : Below w.heap.size w (w.alloc (.cells #[.int .i64 kd, .int .i64 who, .int .i64 nn, .int .i64 dr, .int .i64 o0, .int .i64 o1, .int .i64 o2, .int .i64 o3, .string tx, .string ty, .bool cut] 31)) := (Below.refl _ _).alloc (Nat.le_refl _) _
  have hlt : w.heap.size < (w.alloc (.cells #[.int .i64 kd, .int .i64 who, .int .i64 nn, .int .i64 dr, .int .i64 o0, .int .i64 o1, .int .i64 o2, .int .i64 o3, .string tx, .string ty, .bool cut] 31)).heap.size := by simp
  generalize (w.alloc (.cells #[.int .i64 kd, .int .i64 who, .int .i64 nn, .int .i64 dr, .int .i64 o0, .int .i64 o1, .int .i64 o2, .int .i64 o3, .string tx, .string ty, .bool cut] 31)) = wa at hO hWa hlt ⊢
  have HO := hid hO
  have HWa := hid hWa
  have HA := hid (hW.next hWa)
  have k0 : wa.cell? ⟨w.heap.size, 0, none⟩ = some (.int .i64 kd) := cell_of_row wa _ 0 _ _ _ hO
  have k1 : wa.cell? ⟨w.heap.size, 1, none⟩ = some (.int .i64 who) := cell_of_row wa _ 1 _ _ _ hO
  have k2 : wa.cell? ⟨w.heap.size, 2, none⟩ = some (.int .i64 nn) := cell_of_row wa _ 2 _ _ _ hO
  have k3 : wa.cell? ⟨w.heap.size, 3, none⟩ = some (.int .i64 dr) := cell_of_row wa _ 3 _ _ _ hO
  have k4 : wa.cell? ⟨w.heap.size, 4, none⟩ = some (.int .i64 o0) := cell_of_row wa _ 4 _ _ _ hO
  have k5 : wa.cell? ⟨w.heap.size, 5, none⟩ = some (.int .i64 o1) := cell_of_row wa _ 5 _ _ _ hO
  have k6 : wa.cell? ⟨w.heap.size, 6, none⟩ = some (.int .i64 o2) := cell_of_row wa _ 6 _ _ _ hO
  have k7 : wa.cell? ⟨w.heap.size, 7, none⟩ = some (.int .i64 o3) := cell_of_row wa _ 7 _ _ _ hO
  have k8 : wa.cell? ⟨w.heap.size, 8, none⟩ = some (.string tx) := cell_of_row wa _ 8 _ _ _ hO
  have k9 : wa.cell? ⟨w.heap.size, 9, none⟩ = some (.string ty) := cell_of_row wa _ 9 _ _ _ hO
  have k10 : wa.cell? ⟨w.heap.size, 10, none⟩ = some (.bool cut) := cell_of_row wa _ 10 _ _ _ hO
  clear hO hWa
  go_upto_region 4 with (first | (go_at_call 5; go_loud (with_reducible refine (c0 _ (by omega) HA.out).mono ?_); rintro e w2 ⟨rfl, hb2⟩))
  have HA2 := hid (HA.out.next hb2)
  have hO2 := (hb2.block w.heap.size (by omega)).trans HO.out
  have HW2 := hid (below_tr HWa.out hb2)
  have hs2 := hb2.size
  clear k0 k1 k2 k3 k4 k5 k6 k7 k8 k9 k10 c0 hb2
  have k0 : w2.cell? ⟨w.heap.size, 0, none⟩ = some (.int .i64 kd) := cell_of_row w2 _ 0 _ _ _ hO2
  have k1 : w2.cell? ⟨w.heap.size, 1, none⟩ = some (.int .i64 who) := cell_of_row w2 _ 1 _ _ _ hO2
  have HO2 := hid hO2
  clear hO2
  go_wp2_with (first | (go_at_call 11; go_loud (with_reducible refine (c1 _ HA2.out.blk).mono ?_); rintro e w' ⟨rfl, hw⟩; rw [hw]; clear hw w') | (go_at_call 10; go_loud (with_reducible refine (c2 _).mono ?_); rintro e w3 ⟨rfl, hb3⟩))
  go_ret
  exact ⟨rfl, WOut.same HWW.out (below_tr HW2.out hb3)⟩

set_option maxRecDepth 100000 in
set_option maxHeartbeats 1000000 in
theorem step_mix (G base : Nat) (A B : ByteArray) (v : Value) (L : List ByteArray) (kd who nn dr o0 o1 o2 o3 : Int) (tx ty : ByteArray) (cut : Bool) (w : World) (hW : WAt G base A B v L w) (hGb : G < base) (hbase : base ≤ w.heap.size) (hLb : (L.length + 1) * 16 ≤ 140737488355328) (hn : (Lit.int .i64 nn).wf = true) (hdr : (Lit.int .i64 dr).wf = true) (hx : tx.size ≤ maxLen) (hy : ty.size ≤ maxLen) (hc0 : (Lit.int .i64 o0).wf = true) (hc1 : (Lit.int .i64 o1).wf = true) (hc2 : (Lit.int .i64 o2).wf = true) (hc3 : (Lit.int .i64 o3).wf = true) (h1 : kd ≠ 1) (h2 : kd ≠ 2) (h3 : kd ≠ 3) (h8 : kd ≠ 8) (hk : kd = 12) :
    Calls Tryz.prog 4 #[.pointer (some ⟨G, 0, none⟩), .agg #[.int .i64 kd, .int .i64 who, .int .i64 nn, .int .i64 dr, .int .i64 o0, .int .i64 o1, .int .i64 o2, .int .i64 o3, .string tx, .string ty, .bool cut]] w fun e w' => e = .returned (.bool true) ∧ WOut G base v L w w' := by
  have hGlt := hW.lt
  have HWW := hid hW
  have hro : ∀ k, v.ownBlock = some k → k < w.heap.size := fun k q => (hW.row.lt k q).2
  have HRO := hid hro
  have c0 := fun (w0 : World) (hb : w.heap.size ≤ w0.heap.size) (hA : WAt G base A B v L w0) => given_none G base A B v L kd who nn dr o0 o1 o2 o3 tx ty cut w0 hA hGb (by omega) hLb hn hdr hx hy h1 h2 h3 h8
  have c2 := fun w => mixes_walk tx ty hx hy w
  have n4 : (kd == 4) = false := by rw [beq_eq_false_iff_ne]; omega
  have n10 : (kd == 10) = false := by rw [beq_eq_false_iff_ne]; omega
  have n5 : (kd == 5) = false := by rw [beq_eq_false_iff_ne]; omega
  have n6 : (kd == 6) = false := by rw [beq_eq_false_iff_ne]; omega
  have n7 : (kd == 7) = false := by rw [beq_eq_false_iff_ne]; omega
  have n9 : (kd == 9) = false := by rw [beq_eq_false_iff_ne]; omega
  have n11 : (kd == 11) = false := by rw [beq_eq_false_iff_ne]; omega
  have nk : (kd == 12) = true := by rw [beq_iff_eq]; exact hk
  clear hk
  clear h1 h2 h3 h8 hro
  go_enter Tryz.func4, Tryz.ntmps4
  go_upto_region 1 with fail
  have hO := heap_alloc_new w (.cells #[.int .i64 kd, .int .i64 who, .int .i64 nn, .int .i64 dr, .int .i64 o0, .int .i64 o1, .int .i64 o2, .int .i64 o3, .string tx, .string ty, .bool cut] 31)
  have hWa : Below w.heap.size w (w.alloc (.cells #[.int .i64 kd, .int .i64 who, .int .i64 nn, .int .i64 dr, .int .i64 o0, .int .i64 o1, .int .i64 o2, .int .i64 o3, .string tx, .string ty, .bool cut] 31)) := (Below.refl _ _).alloc (Nat.le_refl _) _
  have hlt : w.heap.size < (w.alloc (.cells #[.int .i64 kd, .int .i64 who, .int .i64 nn, .int .i64 dr, .int .i64 o0, .int .i64 o1, .int .i64 o2, .int .i64 o3, .string tx, .string ty, .bool cut] 31)).heap.size := by simp
  generalize (w.alloc (.cells #[.int .i64 kd, .int .i64 who, .int .i64 nn, .int .i64 dr, .int .i64 o0, .int .i64 o1, .int .i64 o2, .int .i64 o3, .string tx, .string ty, .bool cut] 31)) = wa at hO hWa hlt ⊢
  have HO := hid hO
  have HWa := hid hWa
  have HA := hid (hW.next hWa)
  have k0 : wa.cell? ⟨w.heap.size, 0, none⟩ = some (.int .i64 kd) := cell_of_row wa _ 0 _ _ _ hO
  have k1 : wa.cell? ⟨w.heap.size, 1, none⟩ = some (.int .i64 who) := cell_of_row wa _ 1 _ _ _ hO
  have k2 : wa.cell? ⟨w.heap.size, 2, none⟩ = some (.int .i64 nn) := cell_of_row wa _ 2 _ _ _ hO
  have k3 : wa.cell? ⟨w.heap.size, 3, none⟩ = some (.int .i64 dr) := cell_of_row wa _ 3 _ _ _ hO
  have k4 : wa.cell? ⟨w.heap.size, 4, none⟩ = some (.int .i64 o0) := cell_of_row wa _ 4 _ _ _ hO
  have k5 : wa.cell? ⟨w.heap.size, 5, none⟩ = some (.int .i64 o1) := cell_of_row wa _ 5 _ _ _ hO
  have k6 : wa.cell? ⟨w.heap.size, 6, none⟩ = some (.int .i64 o2) := cell_of_row wa _ 6 _ _ _ hO
  have k7 : wa.cell? ⟨w.heap.size, 7, none⟩ = some (.int .i64 o3) := cell_of_row wa _ 7 _ _ _ hO
  have k8 : wa.cell? ⟨w.heap.size, 8, none⟩ = some (.string tx) := cell_of_row wa _ 8 _ _ _ hO
  have k9 : wa.cell? ⟨w.heap.size, 9, none⟩ = some (.string ty) := cell_of_row wa _ 9 _ _ _ hO
  have k10 : wa.cell? ⟨w.heap.size, 10, none⟩ = some (.bool cut) := cell_of_row wa _ 10 _ _ _ hO
  clear hO hWa
  go_upto_region 4 with (first | (go_at_call 5; go_loud (with_reducible refine (c0 _ (by omega) HA.out).mono ?_); rintro e w2 ⟨rfl, hb2⟩))
  have HA2 := hid (HA.out.next hb2)
  have hO2 := (hb2.block w.heap.size (by omega)).trans HO.out
  have HW2 := hid (below_tr HWa.out hb2)
  have hs2 := hb2.size
  clear k0 k1 k2 k3 k4 k5 k6 k7 k8 k9 k10 c0 hb2
  have k0 : w2.cell? ⟨w.heap.size, 0, none⟩ = some (.int .i64 kd) := cell_of_row w2 _ 0 _ _ _ hO2
  have k8 : w2.cell? ⟨w.heap.size, 8, none⟩ = some (.string tx) := cell_of_row w2 _ 8 _ _ _ hO2
  have k9 : w2.cell? ⟨w.heap.size, 9, none⟩ = some (.string ty) := cell_of_row w2 _ 9 _ _ _ hO2
  have HO2 := hid hO2
  clear hO2
  go_wp2_with (first | (go_at_call 13; go_loud (with_reducible refine (c2 _).mono ?_); rintro e w3 ⟨rfl, hb3⟩))
  go_ret
  exact ⟨rfl, WOut.same HWW.out (below_tr HW2.out hb3)⟩

set_option maxRecDepth 100000 in
set_option maxHeartbeats 1000000 in
theorem step_power (G base : Nat) (A B : ByteArray) (v : Value) (L : List ByteArray) (kd who nn dr o0 o1 o2 o3 : Int) (tx ty : ByteArray) (cut : Bool) (w : World) (hW : WAt G base A B v L w) (hGb : G < base) (hbase : base ≤ w.heap.size) (hLb : (L.length + 1) * 16 ≤ 140737488355328) (hn : (Lit.int .i64 nn).wf = true) (hdr : (Lit.int .i64 dr).wf = true) (hx : tx.size ≤ maxLen) (hy : ty.size ≤ maxLen) (hc0 : (Lit.int .i64 o0).wf = true) (hc1 : (Lit.int .i64 o1).wf = true) (hc2 : (Lit.int .i64 o2).wf = true) (hc3 : (Lit.int .i64 o3).wf = true) (h1 : kd ≠ 1) (h2 : kd ≠ 2) (h3 : kd ≠ 3) (h8 : kd ≠ 8) (hk : kd = 13) :
    Calls Tryz.prog 4 #[.pointer (some ⟨G, 0, none⟩), .agg #[.int .i64 kd, .int .i64 who, .int .i64 nn, .int .i64 dr, .int .i64 o0, .int .i64 o1, .int .i64 o2, .int .i64 o3, .string tx, .string ty, .bool cut]] w fun e w' => e = .returned (.bool true) ∧ WOut G base v L w w' := by
  have hGlt := hW.lt
  have HWW := hid hW
  have hro : ∀ k, v.ownBlock = some k → k < w.heap.size := fun k q => (hW.row.lt k q).2
  have HRO := hid hro
  have c0 := fun (w0 : World) (hb : w.heap.size ≤ w0.heap.size) (hA : WAt G base A B v L w0) => given_none G base A B v L kd who nn dr o0 o1 o2 o3 tx ty cut w0 hA hGb (by omega) hLb hn hdr hx hy h1 h2 h3 h8
  have c2 := fun w => powers_walk dr nn hdr hn w
  have n4 : (kd == 4) = false := by rw [beq_eq_false_iff_ne]; omega
  have n10 : (kd == 10) = false := by rw [beq_eq_false_iff_ne]; omega
  have n5 : (kd == 5) = false := by rw [beq_eq_false_iff_ne]; omega
  have n6 : (kd == 6) = false := by rw [beq_eq_false_iff_ne]; omega
  have n7 : (kd == 7) = false := by rw [beq_eq_false_iff_ne]; omega
  have n9 : (kd == 9) = false := by rw [beq_eq_false_iff_ne]; omega
  have n11 : (kd == 11) = false := by rw [beq_eq_false_iff_ne]; omega
  have n12 : (kd == 12) = false := by rw [beq_eq_false_iff_ne]; omega
  have nk : (kd == 13) = true := by rw [beq_iff_eq]; exact hk
  clear hk
  clear h1 h2 h3 h8 hro
  go_enter Tryz.func4, Tryz.ntmps4
  go_upto_region 1 with fail
  have hO := heap_alloc_new w (.cells #[.int .i64 kd, .int .i64 who, .int .i64 nn, .int .i64 dr, .int .i64 o0, .int .i64 o1, .int .i64 o2, .int .i64 o3, .string tx, .string ty, .bool cut] 31)
  have hWa : Below w.heap.size w (w.alloc (.cells #[.int .i64 kd, .int .i64 who, .int .i64 nn, .int .i64 dr, .int .i64 o0, .int .i64 o1, .int .i64 o2, .int .i64 o3, .string tx, .string ty, .bool cut] 31)) := (Below.refl _ _).alloc (Nat.le_refl _) _
  have hlt : w.heap.size < (w.alloc (.cells #[.int .i64 kd, .int .i64 who, .int .i64 nn, .int .i64 dr, .int .i64 o0, .int .i64 o1, .int .i64 o2, .int .i64 o3, .string tx, .string ty, .bool cut] 31)).heap.size := by simp
  generalize (w.alloc (.cells #[.int .i64 kd, .int .i64 who, .int .i64 nn, .int .i64 dr, .int .i64 o0, .int .i64 o1, .int .i64 o2, .int .i64 o3, .string tx, .string ty, .bool cut] 31)) = wa at hO hWa hlt ⊢
  have HO := hid hO
  have HWa := hid hWa
  have HA := hid (hW.next hWa)
  have k0 : wa.cell? ⟨w.heap.size, 0, none⟩ = some (.int .i64 kd) := cell_of_row wa _ 0 _ _ _ hO
  have k1 : wa.cell? ⟨w.heap.size, 1, none⟩ = some (.int .i64 who) := cell_of_row wa _ 1 _ _ _ hO
  have k2 : wa.cell? ⟨w.heap.size, 2, none⟩ = some (.int .i64 nn) := cell_of_row wa _ 2 _ _ _ hO
  have k3 : wa.cell? ⟨w.heap.size, 3, none⟩ = some (.int .i64 dr) := cell_of_row wa _ 3 _ _ _ hO
  have k4 : wa.cell? ⟨w.heap.size, 4, none⟩ = some (.int .i64 o0) := cell_of_row wa _ 4 _ _ _ hO
  have k5 : wa.cell? ⟨w.heap.size, 5, none⟩ = some (.int .i64 o1) := cell_of_row wa _ 5 _ _ _ hO
  have k6 : wa.cell? ⟨w.heap.size, 6, none⟩ = some (.int .i64 o2) := cell_of_row wa _ 6 _ _ _ hO
  have k7 : wa.cell? ⟨w.heap.size, 7, none⟩ = some (.int .i64 o3) := cell_of_row wa _ 7 _ _ _ hO
  have k8 : wa.cell? ⟨w.heap.size, 8, none⟩ = some (.string tx) := cell_of_row wa _ 8 _ _ _ hO
  have k9 : wa.cell? ⟨w.heap.size, 9, none⟩ = some (.string ty) := cell_of_row wa _ 9 _ _ _ hO
  have k10 : wa.cell? ⟨w.heap.size, 10, none⟩ = some (.bool cut) := cell_of_row wa _ 10 _ _ _ hO
  clear hO hWa
  go_upto_region 4 with (first | (go_at_call 5; go_loud (with_reducible refine (c0 _ (by omega) HA.out).mono ?_); rintro e w2 ⟨rfl, hb2⟩))
  have HA2 := hid (HA.out.next hb2)
  have hO2 := (hb2.block w.heap.size (by omega)).trans HO.out
  have HW2 := hid (below_tr HWa.out hb2)
  have hs2 := hb2.size
  clear k0 k1 k2 k3 k4 k5 k6 k7 k8 k9 k10 c0 hb2
  have k0 : w2.cell? ⟨w.heap.size, 0, none⟩ = some (.int .i64 kd) := cell_of_row w2 _ 0 _ _ _ hO2
  have k2 : w2.cell? ⟨w.heap.size, 2, none⟩ = some (.int .i64 nn) := cell_of_row w2 _ 2 _ _ _ hO2
  have k3 : w2.cell? ⟨w.heap.size, 3, none⟩ = some (.int .i64 dr) := cell_of_row w2 _ 3 _ _ _ hO2
  have HO2 := hid hO2
  clear hO2
  go_wp2_with (first | (go_at_call 14; go_loud (with_reducible refine (c2 _).mono ?_); rintro e w3 ⟨rfl, hb3⟩))
  go_ret
  exact ⟨rfl, WOut.same HWW.out (below_tr HW2.out hb3)⟩

set_option maxRecDepth 100000 in
set_option maxHeartbeats 1000000 in
theorem step_none (G base : Nat) (A B : ByteArray) (v : Value) (L : List ByteArray) (kd who nn dr o0 o1 o2 o3 : Int) (tx ty : ByteArray) (cut : Bool) (w : World) (hW : WAt G base A B v L w) (hGb : G < base) (hbase : base ≤ w.heap.size) (hLb : (L.length + 1) * 16 ≤ 140737488355328) (hn : (Lit.int .i64 nn).wf = true) (hdr : (Lit.int .i64 dr).wf = true) (hx : tx.size ≤ maxLen) (hy : ty.size ≤ maxLen) (hc0 : (Lit.int .i64 o0).wf = true) (hc1 : (Lit.int .i64 o1).wf = true) (hc2 : (Lit.int .i64 o2).wf = true) (hc3 : (Lit.int .i64 o3).wf = true) (h1 : kd ≠ 1) (h2 : kd ≠ 2) (h3 : kd ≠ 3) (h8 : kd ≠ 8) (m4 : kd ≠ 4) (m10 : kd ≠ 10) (m5 : kd ≠ 5) (m6 : kd ≠ 6) (m7 : kd ≠ 7) (m9 : kd ≠ 9) (m11 : kd ≠ 11) (m12 : kd ≠ 12) (m13 : kd ≠ 13) (m14 : kd ≠ 14) :
    Calls Tryz.prog 4 #[.pointer (some ⟨G, 0, none⟩), .agg #[.int .i64 kd, .int .i64 who, .int .i64 nn, .int .i64 dr, .int .i64 o0, .int .i64 o1, .int .i64 o2, .int .i64 o3, .string tx, .string ty, .bool cut]] w fun e w' => e = .returned (.bool true) ∧ WOut G base v L w w' := by
  have hGlt := hW.lt
  have HWW := hid hW
  have hro : ∀ k, v.ownBlock = some k → k < w.heap.size := fun k q => (hW.row.lt k q).2
  have HRO := hid hro
  have c0 := fun (w0 : World) (hb : w.heap.size ≤ w0.heap.size) (hA : WAt G base A B v L w0) => given_none G base A B v L kd who nn dr o0 o1 o2 o3 tx ty cut w0 hA hGb (by omega) hLb hn hdr hx hy h1 h2 h3 h8
  have n4 : (kd == 4) = false := by rw [beq_eq_false_iff_ne]; omega
  have n10 : (kd == 10) = false := by rw [beq_eq_false_iff_ne]; omega
  have n5 : (kd == 5) = false := by rw [beq_eq_false_iff_ne]; omega
  have n6 : (kd == 6) = false := by rw [beq_eq_false_iff_ne]; omega
  have n7 : (kd == 7) = false := by rw [beq_eq_false_iff_ne]; omega
  have n9 : (kd == 9) = false := by rw [beq_eq_false_iff_ne]; omega
  have n11 : (kd == 11) = false := by rw [beq_eq_false_iff_ne]; omega
  have n12 : (kd == 12) = false := by rw [beq_eq_false_iff_ne]; omega
  have n13 : (kd == 13) = false := by rw [beq_eq_false_iff_ne]; omega
  have n14 : (kd == 14) = false := by rw [beq_eq_false_iff_ne]; omega
  clear h1 h2 h3 h8 hro
  go_enter Tryz.func4, Tryz.ntmps4
  go_upto_region 1 with fail
  have hO := heap_alloc_new w (.cells #[.int .i64 kd, .int .i64 who, .int .i64 nn, .int .i64 dr, .int .i64 o0, .int .i64 o1, .int .i64 o2, .int .i64 o3, .string tx, .string ty, .bool cut] 31)
  have hWa : Below w.heap.size w (w.alloc (.cells #[.int .i64 kd, .int .i64 who, .int .i64 nn, .int .i64 dr, .int .i64 o0, .int .i64 o1, .int .i64 o2, .int .i64 o3, .string tx, .string ty, .bool cut] 31)) := (Below.refl _ _).alloc (Nat.le_refl _) _
  have hlt : w.heap.size < (w.alloc (.cells #[.int .i64 kd, .int .i64 who, .int .i64 nn, .int .i64 dr, .int .i64 o0, .int .i64 o1, .int .i64 o2, .int .i64 o3, .string tx, .string ty, .bool cut] 31)).heap.size := by simp
  generalize (w.alloc (.cells #[.int .i64 kd, .int .i64 who, .int .i64 nn, .int .i64 dr, .int .i64 o0, .int .i64 o1, .int .i64 o2, .int .i64 o3, .string tx, .string ty, .bool cut] 31)) = wa at hO hWa hlt ⊢
  have HO := hid hO
  have HWa := hid hWa
  have HA := hid (hW.next hWa)
  have k0 : wa.cell? ⟨w.heap.size, 0, none⟩ = some (.int .i64 kd) := cell_of_row wa _ 0 _ _ _ hO
  have k1 : wa.cell? ⟨w.heap.size, 1, none⟩ = some (.int .i64 who) := cell_of_row wa _ 1 _ _ _ hO
  have k2 : wa.cell? ⟨w.heap.size, 2, none⟩ = some (.int .i64 nn) := cell_of_row wa _ 2 _ _ _ hO
  have k3 : wa.cell? ⟨w.heap.size, 3, none⟩ = some (.int .i64 dr) := cell_of_row wa _ 3 _ _ _ hO
  have k4 : wa.cell? ⟨w.heap.size, 4, none⟩ = some (.int .i64 o0) := cell_of_row wa _ 4 _ _ _ hO
  have k5 : wa.cell? ⟨w.heap.size, 5, none⟩ = some (.int .i64 o1) := cell_of_row wa _ 5 _ _ _ hO
  have k6 : wa.cell? ⟨w.heap.size, 6, none⟩ = some (.int .i64 o2) := cell_of_row wa _ 6 _ _ _ hO
  have k7 : wa.cell? ⟨w.heap.size, 7, none⟩ = some (.int .i64 o3) := cell_of_row wa _ 7 _ _ _ hO
  have k8 : wa.cell? ⟨w.heap.size, 8, none⟩ = some (.string tx) := cell_of_row wa _ 8 _ _ _ hO
  have k9 : wa.cell? ⟨w.heap.size, 9, none⟩ = some (.string ty) := cell_of_row wa _ 9 _ _ _ hO
  have k10 : wa.cell? ⟨w.heap.size, 10, none⟩ = some (.bool cut) := cell_of_row wa _ 10 _ _ _ hO
  clear hO hWa
  go_upto_region 4 with (first | (go_at_call 5; go_loud (with_reducible refine (c0 _ (by omega) HA.out).mono ?_); rintro e w2 ⟨rfl, hb2⟩))
  have HA2 := hid (HA.out.next hb2)
  have hO2 := (hb2.block w.heap.size (by omega)).trans HO.out
  have HW2 := hid (below_tr HWa.out hb2)
  have hs2 := hb2.size
  clear k0 k1 k2 k3 k4 k5 k6 k7 k8 k9 k10 c0 hb2
  have k0 : w2.cell? ⟨w.heap.size, 0, none⟩ = some (.int .i64 kd) := cell_of_row w2 _ 0 _ _ _ hO2
  have HO2 := hid hO2
  clear hO2
  go_wp2
  go_ret
  exact ⟨rfl, WOut.same HWW.out HW2.out⟩

set_option maxRecDepth 100000 in
set_option maxHeartbeats 1000000 in
theorem step_plan (G base : Nat) (A B : ByteArray) (v : Value) (L : List ByteArray) (kd who nn dr o0 o1 o2 o3 : Int) (tx ty : ByteArray) (cut : Bool) (w : World) (hW : WAt G base A B v L w) (hGb : G < base) (hbase : base ≤ w.heap.size) (hLb : (L.length + 1) * 16 ≤ 140737488355328) (hn : (Lit.int .i64 nn).wf = true) (hdr : (Lit.int .i64 dr).wf = true) (hx : tx.size ≤ maxLen) (hy : ty.size ≤ maxLen) (hc0 : (Lit.int .i64 o0).wf = true) (hc1 : (Lit.int .i64 o1).wf = true) (hc2 : (Lit.int .i64 o2).wf = true) (hc3 : (Lit.int .i64 o3).wf = true) (h1 : kd ≠ 1) (h2 : kd ≠ 2) (h3 : kd ≠ 3) (h8 : kd ≠ 8) (hk : kd = 11) :
    Calls Tryz.prog 4 #[.pointer (some ⟨G, 0, none⟩), .agg #[.int .i64 kd, .int .i64 who, .int .i64 nn, .int .i64 dr, .int .i64 o0, .int .i64 o1, .int .i64 o2, .int .i64 o3, .string tx, .string ty, .bool cut]] w fun e w' => e = .returned (.bool true) ∧ WOut G base v L w w' := by
  have hGlt := hW.lt
  have HWW := hid hW
  have hro : ∀ k, v.ownBlock = some k → k < w.heap.size := fun k q => (hW.row.lt k q).2
  have HRO := hid hro
  have c0 := fun (w0 : World) (hb : w.heap.size ≤ w0.heap.size) (hA : WAt G base A B v L w0) => given_none G base A B v L kd who nn dr o0 o1 o2 o3 tx ty cut w0 hA hGb (by omega) hLb hn hdr hx hy h1 h2 h3 h8
  have hdd := disk_le who hW.a hW.b
  have c1 := fun w hG => wDisk_any G A B v who w hG
  have c2 := fun w => replays_walk (diskOf A B who) tx nn ty hdd hx hn hy w
  have n4 : (kd == 4) = false := by rw [beq_eq_false_iff_ne]; omega
  have n10 : (kd == 10) = false := by rw [beq_eq_false_iff_ne]; omega
  have n5 : (kd == 5) = false := by rw [beq_eq_false_iff_ne]; omega
  have n6 : (kd == 6) = false := by rw [beq_eq_false_iff_ne]; omega
  have n7 : (kd == 7) = false := by rw [beq_eq_false_iff_ne]; omega
  have n9 : (kd == 9) = false := by rw [beq_eq_false_iff_ne]; omega
  have nk : (kd == 11) = true := by rw [beq_iff_eq]; exact hk
  clear hk
  clear h1 h2 h3 h8 hro
  go_enter Tryz.func4, Tryz.ntmps4
  go_upto_region 1 with fail
  have hO := heap_alloc_new w (.cells #[.int .i64 kd, .int .i64 who, .int .i64 nn, .int .i64 dr, .int .i64 o0, .int .i64 o1, .int .i64 o2, .int .i64 o3, .string tx, .string ty, .bool cut] 31)
  have hWa : Below w.heap.size w (w.alloc (.cells #[.int .i64 kd, .int .i64 who, .int .i64 nn, .int .i64 dr, .int .i64 o0, .int .i64 o1, .int .i64 o2, .int .i64 o3, .string tx, .string ty, .bool cut] 31)) := (Below.refl _ _).alloc (Nat.le_refl _) _
  have hlt : w.heap.size < (w.alloc (.cells #[.int .i64 kd, .int .i64 who, .int .i64 nn, .int .i64 dr, .int .i64 o0, .int .i64 o1, .int .i64 o2, .int .i64 o3, .string tx, .string ty, .bool cut] 31)).heap.size := by simp
  generalize (w.alloc (.cells #[.int .i64 kd, .int .i64 who, .int .i64 nn, .int .i64 dr, .int .i64 o0, .int .i64 o1, .int .i64 o2, .int .i64 o3, .string tx, .string ty, .bool cut] 31)) = wa at hO hWa hlt ⊢
  have HO := hid hO
  have HWa := hid hWa
  have HA := hid (hW.next hWa)
  have k0 : wa.cell? ⟨w.heap.size, 0, none⟩ = some (.int .i64 kd) := cell_of_row wa _ 0 _ _ _ hO
  have k1 : wa.cell? ⟨w.heap.size, 1, none⟩ = some (.int .i64 who) := cell_of_row wa _ 1 _ _ _ hO
  have k2 : wa.cell? ⟨w.heap.size, 2, none⟩ = some (.int .i64 nn) := cell_of_row wa _ 2 _ _ _ hO
  have k3 : wa.cell? ⟨w.heap.size, 3, none⟩ = some (.int .i64 dr) := cell_of_row wa _ 3 _ _ _ hO
  have k4 : wa.cell? ⟨w.heap.size, 4, none⟩ = some (.int .i64 o0) := cell_of_row wa _ 4 _ _ _ hO
  have k5 : wa.cell? ⟨w.heap.size, 5, none⟩ = some (.int .i64 o1) := cell_of_row wa _ 5 _ _ _ hO
  have k6 : wa.cell? ⟨w.heap.size, 6, none⟩ = some (.int .i64 o2) := cell_of_row wa _ 6 _ _ _ hO
  have k7 : wa.cell? ⟨w.heap.size, 7, none⟩ = some (.int .i64 o3) := cell_of_row wa _ 7 _ _ _ hO
  have k8 : wa.cell? ⟨w.heap.size, 8, none⟩ = some (.string tx) := cell_of_row wa _ 8 _ _ _ hO
  have k9 : wa.cell? ⟨w.heap.size, 9, none⟩ = some (.string ty) := cell_of_row wa _ 9 _ _ _ hO
  have k10 : wa.cell? ⟨w.heap.size, 10, none⟩ = some (.bool cut) := cell_of_row wa _ 10 _ _ _ hO
  clear hO hWa
  go_upto_region 4 with (first | (go_at_call 5; go_loud (with_reducible refine (c0 _ (by omega) HA.out).mono ?_); rintro e w2 ⟨rfl, hb2⟩))
  have HA2 := hid (HA.out.next hb2)
  have hO2 := (hb2.block w.heap.size (by omega)).trans HO.out
  have HW2 := hid (below_tr HWa.out hb2)
  have hs2 := hb2.size
  clear k0 k1 k2 k3 k4 k5 k6 k7 k8 k9 k10 c0 hb2
  have k0 : w2.cell? ⟨w.heap.size, 0, none⟩ = some (.int .i64 kd) := cell_of_row w2 _ 0 _ _ _ hO2
  have k1 : w2.cell? ⟨w.heap.size, 1, none⟩ = some (.int .i64 who) := cell_of_row w2 _ 1 _ _ _ hO2
  have k2 : w2.cell? ⟨w.heap.size, 2, none⟩ = some (.int .i64 nn) := cell_of_row w2 _ 2 _ _ _ hO2
  have k8 : w2.cell? ⟨w.heap.size, 8, none⟩ = some (.string tx) := cell_of_row w2 _ 8 _ _ _ hO2
  have k9 : w2.cell? ⟨w.heap.size, 9, none⟩ = some (.string ty) := cell_of_row w2 _ 9 _ _ _ hO2
  have HO2 := hid hO2
  clear hO2
  go_upto_region 18 with fail
  go_region_held3 (fun w' => w'.cell? ⟨w.heap.size, 1, none⟩ = some (.int .i64 who) ∧ w'.cell? ⟨w.heap.size, 2, none⟩ = some (.int .i64 nn) ∧ w'.cell? ⟨w.heap.size, 8, none⟩ = some (.string tx) ∧ w'.cell? ⟨w.heap.size, 9, none⟩ = some (.string ty)) (first | (simp [k1, k2, k8, k9]; done) | (simp [s1, s2, s8, s9]; done)) (first | (go_at_call 11; go_must (with_reducible refine (c1 _ (WAt.blk (HA2.out.next (by first | exact (Below.refl _ _).drew | exact Below.refl _ _)))).mono ?_); rintro e w' ⟨rfl, hw⟩; rw [hw]; clear hw w') | (go_at_call 12; go_must (with_reducible refine (c2 _).mono ?_); rintro e w3 ⟨rfl, hb3⟩; have hb3' : Below w2.heap.size w2 w3 := ⟨hb3.os, hb3.tape, hb3.output, hb3.size, hb3.block⟩; have hO3 := (hb3'.block w.heap.size (by omega)).trans HO2.out; have s1 : w3.cell? ⟨w.heap.size, 1, none⟩ = some (.int .i64 who) := cell_of_row w3 _ 1 _ _ _ hO3; have s2 : w3.cell? ⟨w.heap.size, 2, none⟩ = some (.int .i64 nn) := cell_of_row w3 _ 2 _ _ _ hO3; have s8 : w3.cell? ⟨w.heap.size, 8, none⟩ = some (.string tx) := cell_of_row w3 _ 8 _ _ _ hO3; have s9 : w3.cell? ⟨w.heap.size, 9, none⟩ = some (.string ty) := cell_of_row w3 _ 9 _ _ _ hO3))
  all_goals (have HB3 := hid hb3'; clear s1 k1 s2 k2 s8 k8 s9 k9 hb3 hb3' hO3)
  all_goals go_wp2
  all_goals go_ret
  all_goals exact ⟨rfl, WOut.same HWW.out (below_tr HW2.out HB3.out)⟩

set_option maxRecDepth 100000 in
set_option maxHeartbeats 1000000 in
theorem step_seal (G base : Nat) (A B : ByteArray) (v : Value) (L : List ByteArray) (kd who nn dr o0 o1 o2 o3 : Int) (tx ty : ByteArray) (cut : Bool) (w : World) (hW : WAt G base A B v L w) (hGb : G < base) (hbase : base ≤ w.heap.size) (hLb : (L.length + 1) * 16 ≤ 140737488355328) (hn : (Lit.int .i64 nn).wf = true) (hdr : (Lit.int .i64 dr).wf = true) (hx : tx.size ≤ maxLen) (hy : ty.size ≤ maxLen) (hc0 : (Lit.int .i64 o0).wf = true) (hc1 : (Lit.int .i64 o1).wf = true) (hc2 : (Lit.int .i64 o2).wf = true) (hc3 : (Lit.int .i64 o3).wf = true) (h1 : kd ≠ 1) (h2 : kd ≠ 2) (h3 : kd ≠ 3) (h8 : kd ≠ 8) (hk : kd = 14) :
    Calls Tryz.prog 4 #[.pointer (some ⟨G, 0, none⟩), .agg #[.int .i64 kd, .int .i64 who, .int .i64 nn, .int .i64 dr, .int .i64 o0, .int .i64 o1, .int .i64 o2, .int .i64 o3, .string tx, .string ty, .bool cut]] w fun e w' => e = .returned (.bool true) ∧ WOut G base v L w w' := by
  have hL2 : L.length ≤ maxLen := by unfold maxLen; omega
  have hGlt := hW.lt
  have HWW := hid hW
  have hro : ∀ k, v.ownBlock = some k → k < w.heap.size := fun k q => (hW.row.lt k q).2
  have HRO := hid hro
  have c0 := fun (w0 : World) (hb : w.heap.size ≤ w0.heap.size) (hA : WAt G base A B v L w0) => given_none G base A B v L kd who nn dr o0 o1 o2 o3 tx ty cut w0 hA hGb (by omega) hLb hn hdr hx hy h1 h2 h3 h8
  have c2 := fun w hA => wLast_any G base A B v L w (WAt.blk hA) (WAt.row hA) hL2 (WAt.txt hA)
  have c3 := fun x w hx => lawHead_any x w hx
  have c4 := fun x w hz => seals_walk tx x ty hx hz hy w
  have n4 : (kd == 4) = false := by rw [beq_eq_false_iff_ne]; omega
  have n10 : (kd == 10) = false := by rw [beq_eq_false_iff_ne]; omega
  have n5 : (kd == 5) = false := by rw [beq_eq_false_iff_ne]; omega
  have n6 : (kd == 6) = false := by rw [beq_eq_false_iff_ne]; omega
  have n7 : (kd == 7) = false := by rw [beq_eq_false_iff_ne]; omega
  have n9 : (kd == 9) = false := by rw [beq_eq_false_iff_ne]; omega
  have n11 : (kd == 11) = false := by rw [beq_eq_false_iff_ne]; omega
  have n12 : (kd == 12) = false := by rw [beq_eq_false_iff_ne]; omega
  have n13 : (kd == 13) = false := by rw [beq_eq_false_iff_ne]; omega
  have nk : (kd == 14) = true := by rw [beq_iff_eq]; exact hk
  clear hk
  clear h1 h2 h3 h8 hro
  go_enter Tryz.func4, Tryz.ntmps4
  go_upto_region 1 with fail
  have hO := heap_alloc_new w (.cells #[.int .i64 kd, .int .i64 who, .int .i64 nn, .int .i64 dr, .int .i64 o0, .int .i64 o1, .int .i64 o2, .int .i64 o3, .string tx, .string ty, .bool cut] 31)
  have hWa : Below w.heap.size w (w.alloc (.cells #[.int .i64 kd, .int .i64 who, .int .i64 nn, .int .i64 dr, .int .i64 o0, .int .i64 o1, .int .i64 o2, .int .i64 o3, .string tx, .string ty, .bool cut] 31)) := (Below.refl _ _).alloc (Nat.le_refl _) _
  have hlt : w.heap.size < (w.alloc (.cells #[.int .i64 kd, .int .i64 who, .int .i64 nn, .int .i64 dr, .int .i64 o0, .int .i64 o1, .int .i64 o2, .int .i64 o3, .string tx, .string ty, .bool cut] 31)).heap.size := by simp
  generalize (w.alloc (.cells #[.int .i64 kd, .int .i64 who, .int .i64 nn, .int .i64 dr, .int .i64 o0, .int .i64 o1, .int .i64 o2, .int .i64 o3, .string tx, .string ty, .bool cut] 31)) = wa at hO hWa hlt ⊢
  have HO := hid hO
  have HWa := hid hWa
  have HA := hid (hW.next hWa)
  have k0 : wa.cell? ⟨w.heap.size, 0, none⟩ = some (.int .i64 kd) := cell_of_row wa _ 0 _ _ _ hO
  have k1 : wa.cell? ⟨w.heap.size, 1, none⟩ = some (.int .i64 who) := cell_of_row wa _ 1 _ _ _ hO
  have k2 : wa.cell? ⟨w.heap.size, 2, none⟩ = some (.int .i64 nn) := cell_of_row wa _ 2 _ _ _ hO
  have k3 : wa.cell? ⟨w.heap.size, 3, none⟩ = some (.int .i64 dr) := cell_of_row wa _ 3 _ _ _ hO
  have k4 : wa.cell? ⟨w.heap.size, 4, none⟩ = some (.int .i64 o0) := cell_of_row wa _ 4 _ _ _ hO
  have k5 : wa.cell? ⟨w.heap.size, 5, none⟩ = some (.int .i64 o1) := cell_of_row wa _ 5 _ _ _ hO
  have k6 : wa.cell? ⟨w.heap.size, 6, none⟩ = some (.int .i64 o2) := cell_of_row wa _ 6 _ _ _ hO
  have k7 : wa.cell? ⟨w.heap.size, 7, none⟩ = some (.int .i64 o3) := cell_of_row wa _ 7 _ _ _ hO
  have k8 : wa.cell? ⟨w.heap.size, 8, none⟩ = some (.string tx) := cell_of_row wa _ 8 _ _ _ hO
  have k9 : wa.cell? ⟨w.heap.size, 9, none⟩ = some (.string ty) := cell_of_row wa _ 9 _ _ _ hO
  have k10 : wa.cell? ⟨w.heap.size, 10, none⟩ = some (.bool cut) := cell_of_row wa _ 10 _ _ _ hO
  clear hO hWa
  go_upto_region 4 with (first | (go_at_call 5; go_loud (with_reducible refine (c0 _ (by omega) HA.out).mono ?_); rintro e w2 ⟨rfl, hb2⟩))
  have HA2 := hid (HA.out.next hb2)
  have hO2 := (hb2.block w.heap.size (by omega)).trans HO.out
  have HW2 := hid (below_tr HWa.out hb2)
  have hs2 := hb2.size
  clear k0 k1 k2 k3 k4 k5 k6 k7 k8 k9 k10 c0 hb2
  have k0 : w2.cell? ⟨w.heap.size, 0, none⟩ = some (.int .i64 kd) := cell_of_row w2 _ 0 _ _ _ hO2
  have k8 : w2.cell? ⟨w.heap.size, 8, none⟩ = some (.string tx) := cell_of_row w2 _ 8 _ _ _ hO2
  have k9 : w2.cell? ⟨w.heap.size, 9, none⟩ = some (.string ty) := cell_of_row w2 _ 9 _ _ _ hO2
  have HO2 := hid hO2
  clear hO2
  go_upto_region 24 with fail
  go_region_held3 (fun w' => w'.cell? ⟨w.heap.size, 8, none⟩ = some (.string tx) ∧ w'.cell? ⟨w.heap.size, 9, none⟩ = some (.string ty)) (first | (simp [k8, k9]; done) | (simp [s8, s9]; done) | (simp [r8, r9]; done)) (first | (go_at_call 17; go_must (with_reducible refine (c2 _ (HA2.out.next (by first | exact (Below.refl _ _).drew | exact Below.refl _ _))).mono ?_); rintro e w3 ⟨⟨px, rfl, hpx⟩, hb3⟩; have hb3' : Below w2.heap.size w2 w3 := ⟨hb3.os, hb3.tape, hb3.output, hb3.size, hb3.block⟩; have hO3 := (hb3'.block w.heap.size (by omega)).trans HO2.out; have s8 : w3.cell? ⟨w.heap.size, 8, none⟩ = some (.string tx) := cell_of_row w3 _ 8 _ _ _ hO3; have s9 : w3.cell? ⟨w.heap.size, 9, none⟩ = some (.string ty) := cell_of_row w3 _ 9 _ _ _ hO3) | (go_at_call 16; go_must (with_reducible refine (c3 _ _ hpx).mono ?_); rintro e w' ⟨⟨qx, rfl, hqx⟩, hw⟩; rw [hw]; clear hw w') | (go_at_call 15; go_must (with_reducible refine (c4 _ _ hqx).mono ?_); rintro e w4 ⟨rfl, hb4⟩; have hb4' : Below w2.heap.size w2 w4 := below_tr hb3' ⟨hb4.os, hb4.tape, hb4.output, hb4.size, hb4.block⟩; have hO4 := (hb4'.block w.heap.size (by omega)).trans HO2.out; have r8 : w4.cell? ⟨w.heap.size, 8, none⟩ = some (.string tx) := cell_of_row w4 _ 8 _ _ _ hO4; have r9 : w4.cell? ⟨w.heap.size, 9, none⟩ = some (.string ty) := cell_of_row w4 _ 9 _ _ _ hO4))
  all_goals (have HB3 := hid hb4'; clear s8 k8 r8 s9 k9 r9 hb3 hb3' hb4 hb4' hO3 hO4)
  all_goals go_wp2
  all_goals go_ret
  all_goals exact ⟨rfl, WOut.same HWW.out (below_tr HW2.out HB3.out)⟩

set_option maxRecDepth 100000 in
set_option maxHeartbeats 1000000 in
theorem step_receive (G base : Nat) (A B : ByteArray) (v : Value) (L : List ByteArray) (kd who nn dr o0 o1 o2 o3 : Int) (tx ty : ByteArray) (cut : Bool) (w : World) (hW : WAt G base A B v L w) (hGb : G < base) (hbase : base ≤ w.heap.size) (hLb : (L.length + 1) * 16 ≤ 140737488355328) (hn : (Lit.int .i64 nn).wf = true) (hdr : (Lit.int .i64 dr).wf = true) (hx : tx.size ≤ maxLen) (hy : ty.size ≤ maxLen) (hc0 : (Lit.int .i64 o0).wf = true) (hc1 : (Lit.int .i64 o1).wf = true) (hc2 : (Lit.int .i64 o2).wf = true) (hc3 : (Lit.int .i64 o3).wf = true) (h1 : kd ≠ 1) (h2 : kd ≠ 2) (h3 : kd ≠ 3) (h8 : kd ≠ 8) (hk : kd = 6) :
    Calls Tryz.prog 4 #[.pointer (some ⟨G, 0, none⟩), .agg #[.int .i64 kd, .int .i64 who, .int .i64 nn, .int .i64 dr, .int .i64 o0, .int .i64 o1, .int .i64 o2, .int .i64 o3, .string tx, .string ty, .bool cut]] w fun e w' => e = .returned (.bool true) ∧ WOut G base v L w w' := by
  have hL2 : L.length ≤ maxLen := by unfold maxLen; omega
  have hGlt := hW.lt
  have HWW := hid hW
  have hro : ∀ k, v.ownBlock = some k → k < w.heap.size := fun k q => (hW.row.lt k q).2
  have HRO := hid hro
  have c0 := fun (w0 : World) (hb : w.heap.size ≤ w0.heap.size) (hA : WAt G base A B v L w0) => given_none G base A B v L kd who nn dr o0 o1 o2 o3 tx ty cut w0 hA hGb (by omega) hLb hn hdr hx hy h1 h2 h3 h8
  have c2 := fun w hA => wLetter_any G base A B v L nn w (wf_i64 hn) (WAt.blk hA) (WAt.row hA) hL2 (WAt.txt hA)
  have c3 := fun x w0 hA hz => takes_any G base A B v L kd who nn dr o0 o1 o2 o3 tx ty cut x w0 hA hGb hn hdr hx hy hz
  have n4 : (kd == 4) = false := by rw [beq_eq_false_iff_ne]; omega
  have n10 : (kd == 10) = false := by rw [beq_eq_false_iff_ne]; omega
  have n5 : (kd == 5) = false := by rw [beq_eq_false_iff_ne]; omega
  have nk : (kd == 6) = true := by rw [beq_iff_eq]; exact hk
  clear hk
  clear h1 h2 h3 h8 hro
  go_enter Tryz.func4, Tryz.ntmps4
  go_upto_region 1 with fail
  have hO := heap_alloc_new w (.cells #[.int .i64 kd, .int .i64 who, .int .i64 nn, .int .i64 dr, .int .i64 o0, .int .i64 o1, .int .i64 o2, .int .i64 o3, .string tx, .string ty, .bool cut] 31)
  have hWa : Below w.heap.size w (w.alloc (.cells #[.int .i64 kd, .int .i64 who, .int .i64 nn, .int .i64 dr, .int .i64 o0, .int .i64 o1, .int .i64 o2, .int .i64 o3, .string tx, .string ty, .bool cut] 31)) := (Below.refl _ _).alloc (Nat.le_refl _) _
  have hlt : w.heap.size < (w.alloc (.cells #[.int .i64 kd, .int .i64 who, .int .i64 nn, .int .i64 dr, .int .i64 o0, .int .i64 o1, .int .i64 o2, .int .i64 o3, .string tx, .string ty, .bool cut] 31)).heap.size := by simp
  generalize (w.alloc (.cells #[.int .i64 kd, .int .i64 who, .int .i64 nn, .int .i64 dr, .int .i64 o0, .int .i64 o1, .int .i64 o2, .int .i64 o3, .string tx, .string ty, .bool cut] 31)) = wa at hO hWa hlt ⊢
  have HO := hid hO
  have HWa := hid hWa
  have HA := hid (hW.next hWa)
  have k0 : wa.cell? ⟨w.heap.size, 0, none⟩ = some (.int .i64 kd) := cell_of_row wa _ 0 _ _ _ hO
  have k1 : wa.cell? ⟨w.heap.size, 1, none⟩ = some (.int .i64 who) := cell_of_row wa _ 1 _ _ _ hO
  have k2 : wa.cell? ⟨w.heap.size, 2, none⟩ = some (.int .i64 nn) := cell_of_row wa _ 2 _ _ _ hO
  have k3 : wa.cell? ⟨w.heap.size, 3, none⟩ = some (.int .i64 dr) := cell_of_row wa _ 3 _ _ _ hO
  have k4 : wa.cell? ⟨w.heap.size, 4, none⟩ = some (.int .i64 o0) := cell_of_row wa _ 4 _ _ _ hO
  have k5 : wa.cell? ⟨w.heap.size, 5, none⟩ = some (.int .i64 o1) := cell_of_row wa _ 5 _ _ _ hO
  have k6 : wa.cell? ⟨w.heap.size, 6, none⟩ = some (.int .i64 o2) := cell_of_row wa _ 6 _ _ _ hO
  have k7 : wa.cell? ⟨w.heap.size, 7, none⟩ = some (.int .i64 o3) := cell_of_row wa _ 7 _ _ _ hO
  have k8 : wa.cell? ⟨w.heap.size, 8, none⟩ = some (.string tx) := cell_of_row wa _ 8 _ _ _ hO
  have k9 : wa.cell? ⟨w.heap.size, 9, none⟩ = some (.string ty) := cell_of_row wa _ 9 _ _ _ hO
  have k10 : wa.cell? ⟨w.heap.size, 10, none⟩ = some (.bool cut) := cell_of_row wa _ 10 _ _ _ hO
  clear hO hWa
  go_upto_region 4 with (first | (go_at_call 5; go_loud (with_reducible refine (c0 _ (by omega) HA.out).mono ?_); rintro e w2 ⟨rfl, hb2⟩))
  have HA2 := hid (HA.out.next hb2)
  have hO2 := (hb2.block w.heap.size (by omega)).trans HO.out
  have HW2 := hid (below_tr HWa.out hb2)
  have hs2 := hb2.size
  clear k0 k1 k2 k3 k4 k5 k6 k7 k8 k9 k10 c0 hb2
  have k0 : w2.cell? ⟨w.heap.size, 0, none⟩ = some (.int .i64 kd) := cell_of_row w2 _ 0 _ _ _ hO2
  have k1 : w2.cell? ⟨w.heap.size, 1, none⟩ = some (.int .i64 who) := cell_of_row w2 _ 1 _ _ _ hO2
  have k2 : w2.cell? ⟨w.heap.size, 2, none⟩ = some (.int .i64 nn) := cell_of_row w2 _ 2 _ _ _ hO2
  have k3 : w2.cell? ⟨w.heap.size, 3, none⟩ = some (.int .i64 dr) := cell_of_row w2 _ 3 _ _ _ hO2
  have k4 : w2.cell? ⟨w.heap.size, 4, none⟩ = some (.int .i64 o0) := cell_of_row w2 _ 4 _ _ _ hO2
  have k5 : w2.cell? ⟨w.heap.size, 5, none⟩ = some (.int .i64 o1) := cell_of_row w2 _ 5 _ _ _ hO2
  have k6 : w2.cell? ⟨w.heap.size, 6, none⟩ = some (.int .i64 o2) := cell_of_row w2 _ 6 _ _ _ hO2
  have k7 : w2.cell? ⟨w.heap.size, 7, none⟩ = some (.int .i64 o3) := cell_of_row w2 _ 7 _ _ _ hO2
  have k8 : w2.cell? ⟨w.heap.size, 8, none⟩ = some (.string tx) := cell_of_row w2 _ 8 _ _ _ hO2
  have k9 : w2.cell? ⟨w.heap.size, 9, none⟩ = some (.string ty) := cell_of_row w2 _ 9 _ _ _ hO2
  have k10 : w2.cell? ⟨w.heap.size, 10, none⟩ = some (.bool cut) := cell_of_row w2 _ 10 _ _ _ hO2
  have HO2 := hid hO2
  clear hO2
  go_upto_region 12 with fail
  go_region_held3 (fun w' => w'.cell? ⟨w.heap.size, 0, none⟩ = some (.int .i64 kd) ∧ w'.cell? ⟨w.heap.size, 1, none⟩ = some (.int .i64 who) ∧ w'.cell? ⟨w.heap.size, 2, none⟩ = some (.int .i64 nn) ∧ w'.cell? ⟨w.heap.size, 3, none⟩ = some (.int .i64 dr) ∧ w'.cell? ⟨w.heap.size, 4, none⟩ = some (.int .i64 o0) ∧ w'.cell? ⟨w.heap.size, 5, none⟩ = some (.int .i64 o1) ∧ w'.cell? ⟨w.heap.size, 6, none⟩ = some (.int .i64 o2) ∧ w'.cell? ⟨w.heap.size, 7, none⟩ = some (.int .i64 o3) ∧ w'.cell? ⟨w.heap.size, 8, none⟩ = some (.string tx) ∧ w'.cell? ⟨w.heap.size, 9, none⟩ = some (.string ty) ∧ w'.cell? ⟨w.heap.size, 10, none⟩ = some (.bool cut)) (first | (simp [k0, k1, k2, k3, k4, k5, k6, k7, k8, k9, k10]; done) | (simp [s0, s1, s2, s3, s4, s5, s6, s7, s8, s9, s10]; done) | (simp [r0, r1, r2, r3, r4, r5, r6, r7, r8, r9, r10]; done)) (first | (go_at_call 9; go_must (with_reducible refine (c2 _ (HA2.out.next (by first | exact (Below.refl _ _).drew | exact Below.refl _ _))).mono ?_); rintro e w3 ⟨⟨px, rfl, hpx⟩, hb3⟩; have hb3' : Below w2.heap.size w2 w3 := ⟨hb3.os, hb3.tape, hb3.output, hb3.size, hb3.block⟩; have hO3 := (hb3'.block w.heap.size (by omega)).trans HO2.out; have s0 : w3.cell? ⟨w.heap.size, 0, none⟩ = some (.int .i64 kd) := cell_of_row w3 _ 0 _ _ _ hO3; have s1 : w3.cell? ⟨w.heap.size, 1, none⟩ = some (.int .i64 who) := cell_of_row w3 _ 1 _ _ _ hO3; have s2 : w3.cell? ⟨w.heap.size, 2, none⟩ = some (.int .i64 nn) := cell_of_row w3 _ 2 _ _ _ hO3; have s3 : w3.cell? ⟨w.heap.size, 3, none⟩ = some (.int .i64 dr) := cell_of_row w3 _ 3 _ _ _ hO3; have s4 : w3.cell? ⟨w.heap.size, 4, none⟩ = some (.int .i64 o0) := cell_of_row w3 _ 4 _ _ _ hO3; have s5 : w3.cell? ⟨w.heap.size, 5, none⟩ = some (.int .i64 o1) := cell_of_row w3 _ 5 _ _ _ hO3; have s6 : w3.cell? ⟨w.heap.size, 6, none⟩ = some (.int .i64 o2) := cell_of_row w3 _ 6 _ _ _ hO3; have s7 : w3.cell? ⟨w.heap.size, 7, none⟩ = some (.int .i64 o3) := cell_of_row w3 _ 7 _ _ _ hO3; have s8 : w3.cell? ⟨w.heap.size, 8, none⟩ = some (.string tx) := cell_of_row w3 _ 8 _ _ _ hO3; have s9 : w3.cell? ⟨w.heap.size, 9, none⟩ = some (.string ty) := cell_of_row w3 _ 9 _ _ _ hO3; have s10 : w3.cell? ⟨w.heap.size, 10, none⟩ = some (.bool cut) := cell_of_row w3 _ 10 _ _ _ hO3) | (go_at_call 8; go_must (with_reducible refine (c3 _ _ (HA2.out.next hb3') hpx).mono ?_); rintro e w4 ⟨rfl, ho4⟩; have hO4 := (ho4.2.block w.heap.size (by have := hb3'.size; omega) (fun q => by rcases q with q | q; omega; (have := HRO.out _ q; omega))).trans hO3; have r0 : w4.cell? ⟨w.heap.size, 0, none⟩ = some (.int .i64 kd) := cell_of_row w4 _ 0 _ _ _ hO4; have r1 : w4.cell? ⟨w.heap.size, 1, none⟩ = some (.int .i64 who) := cell_of_row w4 _ 1 _ _ _ hO4; have r2 : w4.cell? ⟨w.heap.size, 2, none⟩ = some (.int .i64 nn) := cell_of_row w4 _ 2 _ _ _ hO4; have r3 : w4.cell? ⟨w.heap.size, 3, none⟩ = some (.int .i64 dr) := cell_of_row w4 _ 3 _ _ _ hO4; have r4 : w4.cell? ⟨w.heap.size, 4, none⟩ = some (.int .i64 o0) := cell_of_row w4 _ 4 _ _ _ hO4; have r5 : w4.cell? ⟨w.heap.size, 5, none⟩ = some (.int .i64 o1) := cell_of_row w4 _ 5 _ _ _ hO4; have r6 : w4.cell? ⟨w.heap.size, 6, none⟩ = some (.int .i64 o2) := cell_of_row w4 _ 6 _ _ _ hO4; have r7 : w4.cell? ⟨w.heap.size, 7, none⟩ = some (.int .i64 o3) := cell_of_row w4 _ 7 _ _ _ hO4; have r8 : w4.cell? ⟨w.heap.size, 8, none⟩ = some (.string tx) := cell_of_row w4 _ 8 _ _ _ hO4; have r9 : w4.cell? ⟨w.heap.size, 9, none⟩ = some (.string ty) := cell_of_row w4 _ 9 _ _ _ hO4; have r10 : w4.cell? ⟨w.heap.size, 10, none⟩ = some (.bool cut) := cell_of_row w4 _ 10 _ _ _ hO4))
  all_goals (have HB3 := hid hb3'; have HO4 := hid ho4; clear s0 k0 r0 s1 k1 r1 s2 k2 r2 s3 k3 r3 s4 k4 r4 s5 k5 r5 s6 k6 r6 s7 k7 r7 s8 k8 r8 s9 k9 r9 s10 k10 r10 hb3 hb3' ho4 hO3 hO4)
  all_goals go_wp2
  all_goals go_ret
  all_goals exact ⟨rfl, WOut.after (below_tr HW2.out HB3.out) HO4.out⟩
end Go.Proofs.YtabpkohcimiceabGreat
