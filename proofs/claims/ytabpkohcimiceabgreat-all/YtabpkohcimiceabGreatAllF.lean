import Derived.Test.YtabpkohcimiceabGreatAllE
import Derived.WalkKit
import Derived.WalkSpells
import Derived.WalkLawsBesides
import Derived.OwnWalk
import Derived.Laws.Rows
import Derived.Handy
import Derived.Deep.RegionHeld3
import Derived.Deep.DeepMust
import Derived.Deep.DeepCutAuto
import Derived.Deep.AppendLies
namespace Go.Proofs.YtabpkohcimiceabGreat
open Go.RowKit
set_option linter.unusedVariables false
set_option linter.unusedSimpArgs false

/-! ### pawllaw: given -/

set_option maxRecDepth 100000 in
set_option maxHeartbeats 1000000 in
theorem given_blank (G base : Nat) (A B : ByteArray) (v : Value) (L : List ByteArray) (kd who nn dr o0 o1 o2 o3 : Int) (tx ty : ByteArray) (cut : Bool) (w : World) (hW : WAt G base A B v L w) (hGb : G < base) (hbase : base ≤ w.heap.size) (hLb : (L.length + 1) * 16 ≤ 140737488355328) (hn : (Lit.int .i64 nn).wf = true) (hdr : (Lit.int .i64 dr).wf = true) (hx : tx.size ≤ maxLen) (hy : ty.size ≤ maxLen) (hk : kd = 1) :
    Calls Tryz.prog 5 #[.pointer (some ⟨G, 0, none⟩), .agg #[.int .i64 kd, .int .i64 who, .int .i64 nn, .int .i64 dr, .int .i64 o0, .int .i64 o1, .int .i64 o2, .int .i64 o3, .string tx, .string ty, .bool cut]] w fun e w' => e = .returned (.bool true) ∧ WOut G base v L w w' := by
  have hdd := disk_le who hW.a hW.b
  have hGlt := hW.lt
  have c1 := fun w hG => wDisk_any G A B v who w hG
  have HWW := hid hW
  have c2 := fun w => lawPick_any nn 42 w (wf_i64 hn).1 (wf_i64 hn).2 (by omega) (by omega)
  obtain ⟨b0, b1⟩ := pickN_bd nn 42 (by omega)
  have c3 := fun w => zeros_any (pickN nn 42 * 32) w (by omega) (by omega)
  have hwz : IntKind.i64.wrap (pickN nn 42 * 32) = pickN nn 42 * 32 := by rw [IntKind.wrap_i64]; omega
  have hzs : (str (List.replicate (pickN nn 42 * 32).toNat 0)).size ≤ maxLen := by
    rw [str_size, List.length_replicate]; unfold maxLen; omega
  generalize str (List.replicate (pickN nn 42 * 32).toNat 0) = zz at *
  have c9 := fun x w hG => wSet_any G A B x v who w hG
  have nk : (kd == 1) = true := by rw [beq_iff_eq]; exact hk
  clear hk
  generalize diskOf A B who = dd at *
  go_enter Tryz.func5, Tryz.ntmps5
  go_upto_region 1 with fail
  have hO := heap_alloc_new w (.cells #[.int .i64 kd, .int .i64 who, .int .i64 nn, .int .i64 dr, .int .i64 o0, .int .i64 o1, .int .i64 o2, .int .i64 o3, .string tx, .string ty, .bool cut] 31)
  have hWa : Below w.heap.size w (w.alloc (.cells #[.int .i64 kd, .int .i64 who, .int .i64 nn, .int .i64 dr, .int .i64 o0, .int .i64 o1, .int .i64 o2, .int .i64 o3, .string tx, .string ty, .bool cut] 31)) := (Below.refl _ _).alloc (Nat.le_refl _) _
  have hlt : w.heap.size < (w.alloc (.cells #[.int .i64 kd, .int .i64 who, .int .i64 nn, .int .i64 dr, .int .i64 o0, .int .i64 o1, .int .i64 o2, .int .i64 o3, .string tx, .string ty, .bool cut] 31)).heap.size := by simp
  generalize (w.alloc (.cells #[.int .i64 kd, .int .i64 who, .int .i64 nn, .int .i64 dr, .int .i64 o0, .int .i64 o1, .int .i64 o2, .int .i64 o3, .string tx, .string ty, .bool cut] 31)) = wa at hO hWa hlt ⊢
  have HO := hid hO
  have HWa := hid hWa
  have HA := hid (hW.next hWa)
  have k0 : wa.cell? ⟨w.heap.size, 0, none⟩ = some (.int .i64 kd) := cell_of_row wa _ 0 _ _ _ hO
  have k1 : wa.cell? ⟨w.heap.size, 1, none⟩ = some (.int .i64 who) := cell_of_row wa _ 1 _ _ _ hO
  have k2 : wa.cell? ⟨w.heap.size, 2, none⟩ = some (.int .i64 nn) := cell_of_row wa _ 2 _ _ _ hO
  clear hO hWa
  go_upto_region 5 with (first | (go_at_call 11; go_loud (with_reducible refine (c1 _ HA.out.blk).mono ?_); rintro e w' ⟨rfl, hw⟩; rw [hw]; clear hw w'))
  go_region_held3 (fun w' => w'.cell? ⟨w.heap.size, 1, none⟩ = some (.int .i64 who) ∧ w'.cell? ⟨w.heap.size, 2, none⟩ = some (.int .i64 nn)) (first | (simp [k1, k2]; done) | (simp [r1, r2]; done)) (first | (go_at_call 20; go_must (with_reducible refine (c2 _).mono ?_); rintro e w' ⟨rfl, hw⟩; rw [hw]; clear hw w') | (go_at_call 19; go_must (with_reducible refine (c3 _).mono ?_); rintro e w' ⟨rfl, hw⟩; rw [hw]; clear hw w') | (go_at_call 18; go_must (with_reducible refine (c9 _ _ (WAt.blk (HA.out.next (by first | exact (Below.refl _ _).drew | exact Below.refl _ _)))).mono ?_); rintro e w5 ⟨rfl, hG5, hN5⟩; have hO5 := (hN5.block w.heap.size (by exact hlt) (fun q => by omega)).trans HO.out; have r1 : w5.cell? ⟨w.heap.size, 1, none⟩ = some (.int .i64 who) := cell_of_row w5 _ 1 _ _ _ hO5; have r2 : w5.cell? ⟨w.heap.size, 2, none⟩ = some (.int .i64 nn) := cell_of_row w5 _ 2 _ _ _ hO5))
  all_goals (have HG5 := hid hG5; have HN5 : Hid (Only (fun b => b = G) wa w5) := ⟨hN5.os, hN5.tape, hN5.output, hN5.size, hN5.block⟩; have HX5 := hid hzs; clear hG5 hN5 hzs r1 r2 k1 k2 hO5)
  all_goals go_wp2
  all_goals go_ret
  all_goals exact ⟨rfl, WOut.set who HWW.out hGb ((Only.of_below HWa.out).trans HN5.out) HG5.out HX5.out⟩

set_option maxRecDepth 100000 in
set_option maxHeartbeats 1000000 in
theorem given_bytes (G base : Nat) (A B : ByteArray) (v : Value) (L : List ByteArray) (kd who nn dr o0 o1 o2 o3 : Int) (tx ty : ByteArray) (cut : Bool) (w : World) (hW : WAt G base A B v L w) (hGb : G < base) (hbase : base ≤ w.heap.size) (hLb : (L.length + 1) * 16 ≤ 140737488355328) (hn : (Lit.int .i64 nn).wf = true) (hdr : (Lit.int .i64 dr).wf = true) (hx : tx.size ≤ maxLen) (hy : ty.size ≤ maxLen) (hk : kd = 2) :
    Calls Tryz.prog 5 #[.pointer (some ⟨G, 0, none⟩), .agg #[.int .i64 kd, .int .i64 who, .int .i64 nn, .int .i64 dr, .int .i64 o0, .int .i64 o1, .int .i64 o2, .int .i64 o3, .string tx, .string ty, .bool cut]] w fun e w' => e = .returned (.bool true) ∧ WOut G base v L w w' := by
  have hdd := disk_le who hW.a hW.b
  have hGlt := hW.lt
  have c1 := fun w hG => wDisk_any G A B v who w hG
  have HWW := hid hW
  have c9 := fun w hG => wSet_any G A B tx v who w hG
  have n1 : (kd == 1) = false := by rw [beq_eq_false_iff_ne]; omega
  have nk : (kd == 2) = true := by rw [beq_iff_eq]; exact hk
  clear hk
  generalize diskOf A B who = dd at *
  go_enter Tryz.func5, Tryz.ntmps5
  go_upto_region 1 with fail
  have hO := heap_alloc_new w (.cells #[.int .i64 kd, .int .i64 who, .int .i64 nn, .int .i64 dr, .int .i64 o0, .int .i64 o1, .int .i64 o2, .int .i64 o3, .string tx, .string ty, .bool cut] 31)
  have hWa : Below w.heap.size w (w.alloc (.cells #[.int .i64 kd, .int .i64 who, .int .i64 nn, .int .i64 dr, .int .i64 o0, .int .i64 o1, .int .i64 o2, .int .i64 o3, .string tx, .string ty, .bool cut] 31)) := (Below.refl _ _).alloc (Nat.le_refl _) _
  have hlt : w.heap.size < (w.alloc (.cells #[.int .i64 kd, .int .i64 who, .int .i64 nn, .int .i64 dr, .int .i64 o0, .int .i64 o1, .int .i64 o2, .int .i64 o3, .string tx, .string ty, .bool cut] 31)).heap.size := by simp
  generalize (w.alloc (.cells #[.int .i64 kd, .int .i64 who, .int .i64 nn, .int .i64 dr, .int .i64 o0, .int .i64 o1, .int .i64 o2, .int .i64 o3, .string tx, .string ty, .bool cut] 31)) = wa at hO hWa hlt ⊢
  have HO := hid hO
  have HWa := hid hWa
  have HA := hid (hW.next hWa)
  have k0 : wa.cell? ⟨w.heap.size, 0, none⟩ = some (.int .i64 kd) := cell_of_row wa _ 0 _ _ _ hO
  have k1 : wa.cell? ⟨w.heap.size, 1, none⟩ = some (.int .i64 who) := cell_of_row wa _ 1 _ _ _ hO
  have k8 : wa.cell? ⟨w.heap.size, 8, none⟩ = some (.string tx) := cell_of_row wa _ 8 _ _ _ hO
  clear hO hWa
  go_wp2_with (first | (go_at_call 11; go_loud (with_reducible refine (c1 _ HA.out.blk).mono ?_); rintro e w' ⟨rfl, hw⟩; rw [hw]; clear hw w') | (go_at_call 18; go_loud (with_reducible refine (c9 _ HA.out.blk).mono ?_); rintro e w5 ⟨rfl, hG5, hN5⟩; have HG5 := hid hG5; have HN5 := hid hN5; clear hG5 hN5))
  go_ret
  exact ⟨rfl, WOut.set who HWW.out hGb ((Only.of_below HWa.out).trans HN5.out) HG5.out hx⟩

set_option maxRecDepth 100000 in
set_option maxHeartbeats 1000000 in
theorem given_poke (G base : Nat) (A B : ByteArray) (v : Value) (L : List ByteArray) (kd who nn dr o0 o1 o2 o3 : Int) (tx ty : ByteArray) (cut : Bool) (w : World) (hW : WAt G base A B v L w) (hGb : G < base) (hbase : base ≤ w.heap.size) (hLb : (L.length + 1) * 16 ≤ 140737488355328) (hn : (Lit.int .i64 nn).wf = true) (hdr : (Lit.int .i64 dr).wf = true) (hx : tx.size ≤ maxLen) (hy : ty.size ≤ maxLen) (hk : kd = 3) :
    Calls Tryz.prog 5 #[.pointer (some ⟨G, 0, none⟩), .agg #[.int .i64 kd, .int .i64 who, .int .i64 nn, .int .i64 dr, .int .i64 o0, .int .i64 o1, .int .i64 o2, .int .i64 o3, .string tx, .string ty, .bool cut]] w fun e w' => e = .returned (.bool true) ∧ WOut G base v L w w' := by
  have hdd := disk_le who hW.a hW.b
  have hGlt := hW.lt
  have c1 := fun w hG => wDisk_any G A B v who w hG
  have HWW := hid hW
  have c2 := fun w => poked_any (diskOf A B who) nn dr w hdd (wf_i64 hn) (wf_i64 hdr)
  have c9 := fun x w hG => wSet_any G A B x v who w hG
  have n1 : (kd == 1) = false := by rw [beq_eq_false_iff_ne]; omega
  have n2 : (kd == 2) = false := by rw [beq_eq_false_iff_ne]; omega
  have nk : (kd == 3) = true := by rw [beq_iff_eq]; exact hk
  clear hk
  generalize diskOf A B who = dd at *
  go_enter Tryz.func5, Tryz.ntmps5
  go_upto_region 1 with fail
  have hO := heap_alloc_new w (.cells #[.int .i64 kd, .int .i64 who, .int .i64 nn, .int .i64 dr, .int .i64 o0, .int .i64 o1, .int .i64 o2, .int .i64 o3, .string tx, .string ty, .bool cut] 31)
  have hWa : Below w.heap.size w (w.alloc (.cells #[.int .i64 kd, .int .i64 who, .int .i64 nn, .int .i64 dr, .int .i64 o0, .int .i64 o1, .int .i64 o2, .int .i64 o3, .string tx, .string ty, .bool cut] 31)) := (Below.refl _ _).alloc (Nat.le_refl _) _
  have hlt : w.heap.size < (w.alloc (.cells #[.int .i64 kd, .int .i64 who, .int .i64 nn, .int .i64 dr, .int .i64 o0, .int .i64 o1, .int .i64 o2, .int .i64 o3, .string tx, .string ty, .bool cut] 31)).heap.size := by simp
  generalize (w.alloc (.cells #[.int .i64 kd, .int .i64 who, .int .i64 nn, .int .i64 dr, .int .i64 o0, .int .i64 o1, .int .i64 o2, .int .i64 o3, .string tx, .string ty, .bool cut] 31)) = wa at hO hWa hlt ⊢
  have HO := hid hO
  have HWa := hid hWa
  have HA := hid (hW.next hWa)
  have k0 : wa.cell? ⟨w.heap.size, 0, none⟩ = some (.int .i64 kd) := cell_of_row wa _ 0 _ _ _ hO
  have k1 : wa.cell? ⟨w.heap.size, 1, none⟩ = some (.int .i64 who) := cell_of_row wa _ 1 _ _ _ hO
  have k2 : wa.cell? ⟨w.heap.size, 2, none⟩ = some (.int .i64 nn) := cell_of_row wa _ 2 _ _ _ hO
  have k3 : wa.cell? ⟨w.heap.size, 3, none⟩ = some (.int .i64 dr) := cell_of_row wa _ 3 _ _ _ hO
  clear hO hWa
  go_upto_region 9 with (first | (go_at_call 11; go_loud (with_reducible refine (c1 _ HA.out.blk).mono ?_); rintro e w' ⟨rfl, hw⟩; rw [hw]; clear hw w'))
  go_region_held3 (fun w' => w'.cell? ⟨w.heap.size, 1, none⟩ = some (.int .i64 who) ∧ w'.cell? ⟨w.heap.size, 2, none⟩ = some (.int .i64 nn) ∧ w'.cell? ⟨w.heap.size, 3, none⟩ = some (.int .i64 dr)) (first | (simp [k1, k2, k3]; done) | (simp [s1, s2, s3]; done) | (simp [r1, r2, r3]; done)) (first | (go_at_call 21; go_must (with_reducible refine (c2 _).mono ?_); rintro e w4 ⟨⟨px, rfl, hpx⟩, hb4⟩; have hb4' : Below wa.heap.size wa w4 := ⟨hb4.os, hb4.tape, hb4.output, hb4.size, hb4.block⟩; have hO4 := (hb4'.block w.heap.size hlt).trans HO.out; have s1 : w4.cell? ⟨w.heap.size, 1, none⟩ = some (.int .i64 who) := cell_of_row w4 _ 1 _ _ _ hO4; have s2 : w4.cell? ⟨w.heap.size, 2, none⟩ = some (.int .i64 nn) := cell_of_row w4 _ 2 _ _ _ hO4; have s3 : w4.cell? ⟨w.heap.size, 3, none⟩ = some (.int .i64 dr) := cell_of_row w4 _ 3 _ _ _ hO4) | (go_at_call 18; go_must (with_reducible refine (c9 _ _ (HA.out.next hb4').blk).mono ?_); rintro e w5 ⟨rfl, hG5, hN5⟩; have hO5 := (hN5.block w.heap.size (by have := hb4'.size; omega) (fun q => by omega)).trans hO4; have r1 : w5.cell? ⟨w.heap.size, 1, none⟩ = some (.int .i64 who) := cell_of_row w5 _ 1 _ _ _ hO5; have r2 : w5.cell? ⟨w.heap.size, 2, none⟩ = some (.int .i64 nn) := cell_of_row w5 _ 2 _ _ _ hO5; have r3 : w5.cell? ⟨w.heap.size, 3, none⟩ = some (.int .i64 dr) := cell_of_row w5 _ 3 _ _ _ hO5))
  all_goals (have HG5 := hid hG5; have HN5 : Hid (Only (fun b => b = G) wa w5) := (Only.of_below hb4').trans ⟨hN5.os, hN5.tape, hN5.output, hN5.size, hN5.block⟩; have HX5 := hid hpx; clear hG5 hN5 hpx r1 r2 r3 s1 s2 s3 k1 k2 k3 hO5 hO4 hb4 hb4')
  all_goals go_wp2
  all_goals go_ret
  all_goals exact ⟨rfl, WOut.set who HWW.out hGb ((Only.of_below HWa.out).trans HN5.out) HG5.out HX5.out⟩

set_option maxRecDepth 100000 in
set_option maxHeartbeats 1000000 in
theorem given_none (G base : Nat) (A B : ByteArray) (v : Value) (L : List ByteArray) (kd who nn dr o0 o1 o2 o3 : Int) (tx ty : ByteArray) (cut : Bool) (w : World) (hW : WAt G base A B v L w) (hGb : G < base) (hbase : base ≤ w.heap.size) (hLb : (L.length + 1) * 16 ≤ 140737488355328) (hn : (Lit.int .i64 nn).wf = true) (hdr : (Lit.int .i64 dr).wf = true) (hx : tx.size ≤ maxLen) (hy : ty.size ≤ maxLen) (h1 : kd ≠ 1) (h2 : kd ≠ 2) (h3 : kd ≠ 3) (h8 : kd ≠ 8) :
    Calls Tryz.prog 5 #[.pointer (some ⟨G, 0, none⟩), .agg #[.int .i64 kd, .int .i64 who, .int .i64 nn, .int .i64 dr, .int .i64 o0, .int .i64 o1, .int .i64 o2, .int .i64 o3, .string tx, .string ty, .bool cut]] w fun e w' => e = .returned (.bool false) ∧ Below w.heap.size w w' := by
  have hdd := disk_le who hW.a hW.b
  have hGlt := hW.lt
  have c1 := fun w hG => wDisk_any G A B v who w hG
  have HWW := hid hW
  have n1 : (kd == 1) = false := by rw [beq_eq_false_iff_ne]; exact h1
  have n2 : (kd == 2) = false := by rw [beq_eq_false_iff_ne]; exact h2
  have n3 : (kd == 3) = false := by rw [beq_eq_false_iff_ne]; exact h3
  have n8 : (kd == 8) = false := by rw [beq_eq_false_iff_ne]; exact h8
  clear h1 h2 h3 h8
  generalize diskOf A B who = dd at *
  go_enter Tryz.func5, Tryz.ntmps5
  go_upto_region 1 with fail
  have hO := heap_alloc_new w (.cells #[.int .i64 kd, .int .i64 who, .int .i64 nn, .int .i64 dr, .int .i64 o0, .int .i64 o1, .int .i64 o2, .int .i64 o3, .string tx, .string ty, .bool cut] 31)
  have hWa : Below w.heap.size w (w.alloc (.cells #[.int .i64 kd, .int .i64 who, .int .i64 nn, .int .i64 dr, .int .i64 o0, .int .i64 o1, .int .i64 o2, .int .i64 o3, .string tx, .string ty, .bool cut] 31)) := (Below.refl _ _).alloc (Nat.le_refl _) _
  have hlt : w.heap.size < (w.alloc (.cells #[.int .i64 kd, .int .i64 who, .int .i64 nn, .int .i64 dr, .int .i64 o0, .int .i64 o1, .int .i64 o2, .int .i64 o3, .string tx, .string ty, .bool cut] 31)).heap.size := by simp
  generalize (w.alloc (.cells #[.int .i64 kd, .int .i64 who, .int .i64 nn, .int .i64 dr, .int .i64 o0, .int .i64 o1, .int .i64 o2, .int .i64 o3, .string tx, .string ty, .bool cut] 31)) = wa at hO hWa hlt ⊢
  have HO := hid hO
  have HWa := hid hWa
  have HA := hid (hW.next hWa)
  have k0 : wa.cell? ⟨w.heap.size, 0, none⟩ = some (.int .i64 kd) := cell_of_row wa _ 0 _ _ _ hO
  have k1 : wa.cell? ⟨w.heap.size, 1, none⟩ = some (.int .i64 who) := cell_of_row wa _ 1 _ _ _ hO
  clear hO hWa
  go_wp2_with (first | (go_at_call 11; go_loud (with_reducible refine (c1 _ HA.out.blk).mono ?_); rintro e w' ⟨rfl, hw⟩; rw [hw]; clear hw w'))
  go_ret
  exact ⟨rfl, HWa.out⟩

set_option maxRecDepth 100000 in
set_option maxHeartbeats 1000000 in
theorem given_turn (G base : Nat) (A B : ByteArray) (v : Value) (L : List ByteArray) (kd who nn dr o0 o1 o2 o3 : Int) (tx ty : ByteArray) (cut : Bool) (w : World) (hW : WAt G base A B v L w) (hGb : G < base) (hbase : base ≤ w.heap.size) (hLb : (L.length + 1) * 16 ≤ 140737488355328) (hn : (Lit.int .i64 nn).wf = true) (hdr : (Lit.int .i64 dr).wf = true) (hx : tx.size ≤ maxLen) (hy : ty.size ≤ maxLen) (hk : kd = 8) :
    Calls Tryz.prog 5 #[.pointer (some ⟨G, 0, none⟩), .agg #[.int .i64 kd, .int .i64 who, .int .i64 nn, .int .i64 dr, .int .i64 o0, .int .i64 o1, .int .i64 o2, .int .i64 o3, .string tx, .string ty, .bool cut]] w fun e w' => e = .returned (.bool true) ∧ WOut G base v L w w' := by
  obtain ⟨i0, hi0, hz0, hz1, hz2⟩ := info_parts Tryz.infoStr
  obtain ⟨xa, xc, hxv⟩ := txtForm hW.row
  subst hxv
  have hdd := disk_le who hW.a hW.b
  have hGlt := hW.lt
  have c1 := fun w hG => wDisk_any G A B (.slice xa L.length xc) who w hG
  have HWW := hid hW
  have hL2 : L.length ≤ maxLen := by unfold maxLen; omega
  have c2 := fun w hA => wLast_any G base A B (.slice xa L.length xc) L w (WAt.blk hA) (WAt.row hA) hL2 (WAt.txt hA)
  have c3 := fun x w hx => poked_any x nn dr w hx (wf_i64 hn) (wf_i64 hdr)
  have n1 : (kd == 1) = false := by rw [beq_eq_false_iff_ne]; omega
  have n2 : (kd == 2) = false := by rw [beq_eq_false_iff_ne]; omega
  have n3 : (kd == 3) = false := by rw [beq_eq_false_iff_ne]; omega
  have nk : (kd == 8) = true := by rw [beq_iff_eq]; exact hk
  clear hk
  generalize diskOf A B who = dd at *
  go_enter Tryz.func5, Tryz.ntmps5
  go_upto_region 1 with fail
  have hO := heap_alloc_new w (.cells #[.int .i64 kd, .int .i64 who, .int .i64 nn, .int .i64 dr, .int .i64 o0, .int .i64 o1, .int .i64 o2, .int .i64 o3, .string tx, .string ty, .bool cut] 31)
  have hWa : Below w.heap.size w (w.alloc (.cells #[.int .i64 kd, .int .i64 who, .int .i64 nn, .int .i64 dr, .int .i64 o0, .int .i64 o1, .int .i64 o2, .int .i64 o3, .string tx, .string ty, .bool cut] 31)) := (Below.refl _ _).alloc (Nat.le_refl _) _
  have hlt : w.heap.size < (w.alloc (.cells #[.int .i64 kd, .int .i64 who, .int .i64 nn, .int .i64 dr, .int .i64 o0, .int .i64 o1, .int .i64 o2, .int .i64 o3, .string tx, .string ty, .bool cut] 31)).heap.size := by simp
  generalize (w.alloc (.cells #[.int .i64 kd, .int .i64 who, .int .i64 nn, .int .i64 dr, .int .i64 o0, .int .i64 o1, .int .i64 o2, .int .i64 o3, .string tx, .string ty, .bool cut] 31)) = wa at hO hWa hlt ⊢
  have HO := hid hO
  have HWa := hid hWa
  have HA := hid (hW.next hWa)
  have k0 : wa.cell? ⟨w.heap.size, 0, none⟩ = some (.int .i64 kd) := cell_of_row wa _ 0 _ _ _ hO
  have k1 : wa.cell? ⟨w.heap.size, 1, none⟩ = some (.int .i64 who) := cell_of_row wa _ 1 _ _ _ hO
  have k2 : wa.cell? ⟨w.heap.size, 2, none⟩ = some (.int .i64 nn) := cell_of_row wa _ 2 _ _ _ hO
  have k3 : wa.cell? ⟨w.heap.size, 3, none⟩ = some (.int .i64 dr) := cell_of_row wa _ 3 _ _ _ hO
  clear hO hWa
  go_upto_region 11 with (first | (go_at_call 11; go_loud (with_reducible refine (c1 _ HA.out.blk).mono ?_); rintro e w' ⟨rfl, hw⟩; rw [hw]; clear hw w'))
  go_cut [6] (fun x wx => (∃ lx : ByteArray, x = .string lx ∧ lx.size ≤ maxLen) ∧ Below wa.heap.size wa wx)
  case first =>
    go_region_held3 (fun w' => w'.cell? ⟨w.heap.size, 2, none⟩ = some (.int .i64 nn) ∧ w'.cell? ⟨w.heap.size, 3, none⟩ = some (.int .i64 dr)) (first | (simp [k2, k3]; done) | (simp [s2, s3]; done)) (first | (go_at_call 17; go_must (with_reducible refine (c2 _ (HA.out.next (by first | exact (Below.refl _ _).drew | exact Below.refl _ _))).mono ?_); rintro e w4 ⟨⟨px, rfl, hpx⟩, hb4⟩; have hb4' : Below wa.heap.size wa w4 := ⟨hb4.os, hb4.tape, hb4.output, hb4.size, hb4.block⟩; have hO4 := (hb4'.block w.heap.size hlt).trans HO.out; have s2 : w4.cell? ⟨w.heap.size, 2, none⟩ = some (.int .i64 nn) := cell_of_row w4 _ 2 _ _ _ hO4; have s3 : w4.cell? ⟨w.heap.size, 3, none⟩ = some (.int .i64 dr) := cell_of_row w4 _ 3 _ _ _ hO4) | (go_at_call 21; go_must (with_reducible refine (c3 _ _ hpx).mono ?_); rintro e w5 ⟨⟨qx, rfl, hqx⟩, hb5⟩; have hb5' : Below wa.heap.size wa w5 := below_tr hb4' ⟨hb5.os, hb5.tape, hb5.output, hb5.size, hb5.block⟩; have hO5 := (hb5'.block w.heap.size hlt).trans HO.out; clear s2 s3; have s2 : w5.cell? ⟨w.heap.size, 2, none⟩ = some (.int .i64 nn) := cell_of_row w5 _ 2 _ _ _ hO5; have s3 : w5.cell? ⟨w.heap.size, 3, none⟩ = some (.int .i64 dr) := cell_of_row w5 _ 3 _ _ _ hO5))
    all_goals (go_wp2_with fail)
    all_goals go_meet
    all_goals exact ⟨⟨qx, rfl, hqx⟩, ⟨hb5'.os, hb5'.tape, hb5'.output, hb5'.size, hb5'.block⟩⟩
  case rest =>
    obtain ⟨⟨lx, rfl, hlx⟩, hb4⟩ := hcut
    have hA4 := HA.out.next hb4
    have hr4 := hA4.row
    have hsz4 := hb4.size
    have z2 : wc.cell? ⟨G, 2, none⟩ = some (.slice xa L.length xc) := cell_of_row wc _ 2 _ _ _ hA4.blk
    have HG4 := hid hA4.blk
    have HLX := hid hlx
    have HW4 := hid (below_tr HWa.out hb4)
    clear k0 k1 k2 k3 hA4 hb4 hlx c1 c2 c3
    go_upto_region 13 with (first | (at_builtin; go_loud (refine wpList_append_lies _ rfl (.tmp 57) (.tmp 59) _ rfl base 9 i0 _ 1 16 Tryz.underlying24 hi0 hz0 hz1 hz2 rfl (by omega) _ L.length (txts L) rfl (hr4.alloc _) ⟨wc.heap.size, 0, none⟩ 1 1 [.string lx] rfl rfl (World.news_of_block (cs := #[.string lx]) (t := 9) (fr := (0, 0)) (heap_alloc_new _ _)) (by simp [Value.oneCell']) (by omega) (by unfold maxLen; omega) (by omega) (by simp; omega) (wc.heap.size + 1) (by simp) ?_); intro g2 cap2 w5 hown5 hgrow hat hlt5; have hG5 := (grown_blk (hr4.alloc _) hgrow hGb (by simp; omega)).trans ((Below.heap_alloc _ _ _ (by omega)).trans HG4.out); have y2 : w5.cell? ⟨G, 2, none⟩ = some (.slice xa L.length xc) := cell_of_row w5 _ 2 _ _ _ hG5; have fG : ∀ j, w5.frozen? ⟨G, j, none⟩ = false := fun j => frozen_of_row w5 _ j _ _ hG5; have HG5 := hid hG5; clear hG5))
    have HN5 : Hid (Only (fun b => b = G ∨ (Value.slice xa L.length xc).ownBlock = some b) w w5) := ((Only.of_below HW4.out).then ((Below.refl _ _).alloc (Nat.le_refl _) _)).grown hgrow (fun k hk _ => .inr hk)
    clear y2 fG z2
    have hB6 : (w5.setCell ⟨G, 2, none⟩ (.slice (some ⟨g2, 0, none⟩) (L.length + 1) cap2)).heap[G]? = some (.cells #[.string A, .string B, .slice (some ⟨g2, 0, none⟩) (L.length + 1) cap2] 26) := heap_setCell_same _ _ _ _ _ _ HG5.out
    have hR6 : (w5.setCell ⟨G, 2, none⟩ (.slice (some ⟨g2, 0, none⟩) (L.length + 1) cap2)).ownsRow base 9 1 (.slice (some ⟨g2, 0, none⟩) (L.length + 1) cap2) (L.length + 1) (txts L ++ [.string lx]) := ownsRow_setCell_below hown5 (by exact hGb) _
    have hN6 : Only (fun b => b = G ∨ (Value.slice xa L.length xc).ownBlock = some b) w (w5.setCell ⟨G, 2, none⟩ (.slice (some ⟨g2, 0, none⟩) (L.length + 1) cap2)) := HN5.out.set (b := G) (.inl rfl) _
    generalize (w5.setCell ⟨G, 2, none⟩ (.slice (some ⟨g2, 0, none⟩) (L.length + 1) cap2)) = w6 at hB6 hR6 hN6 ⊢
    have HB6 := hid hB6
    have HR6 := hid hR6
    have HN6 := hid hN6
    clear hB6 hR6 hN6 hown5 hgrow hat hr4
    go_wp2
    go_ret
    refine ⟨rfl, ⟨A, B, _, L ++ [lx], ⟨HB6.out, HWW.out.a, HWW.out.b, ?_, fun y hy => ?_⟩, by simp⟩, HN6.out⟩
    · have e1 : txts (L ++ [lx]) = txts L ++ [.string lx] := by rw [txts, List.map_append]; rfl
      rw [e1, List.length_append]; exact HR6.out
    · rcases List.mem_append.1 hy with q | q
      · exact HWW.out.txt y q
      · rw [List.mem_singleton.1 q]; exact HLX.out
def givenB (kd : Int) : Bool := decide (kd = 1 ∨ kd = 2 ∨ kd = 3 ∨ kd = 8)
theorem wGiven_any (G base : Nat) (A B : ByteArray) (v : Value) (L : List ByteArray) (kd who nn dr o0 o1 o2 o3 : Int) (tx ty : ByteArray) (cut : Bool) (w : World) (hW : WAt G base A B v L w) (hGb : G < base) (hbase : base ≤ w.heap.size) (hLb : (L.length + 1) * 16 ≤ 140737488355328) (hn : (Lit.int .i64 nn).wf = true) (hdr : (Lit.int .i64 dr).wf = true) (hx : tx.size ≤ maxLen) (hy : ty.size ≤ maxLen) (h : givenB kd = true) :
    Calls Tryz.prog 5 #[.pointer (some ⟨G, 0, none⟩), .agg #[.int .i64 kd, .int .i64 who, .int .i64 nn, .int .i64 dr, .int .i64 o0, .int .i64 o1, .int .i64 o2, .int .i64 o3, .string tx, .string ty, .bool cut]] w fun e w' => e = .returned (.bool true) ∧ WOut G base v L w w' := by
  rw [givenB, decide_eq_true_eq] at h
  rcases h with h | h | h | h
  · exact given_blank G base A B v L kd who nn dr o0 o1 o2 o3 tx ty cut w hW hGb hbase hLb hn hdr hx hy h
  · exact given_bytes G base A B v L kd who nn dr o0 o1 o2 o3 tx ty cut w hW hGb hbase hLb hn hdr hx hy h
  · exact given_poke G base A B v L kd who nn dr o0 o1 o2 o3 tx ty cut w hW hGb hbase hLb hn hdr hx hy h
  · exact given_turn G base A B v L kd who nn dr o0 o1 o2 o3 tx ty cut w hW hGb hbase hLb hn hdr hx hy h
end Go.Proofs.YtabpkohcimiceabGreat
