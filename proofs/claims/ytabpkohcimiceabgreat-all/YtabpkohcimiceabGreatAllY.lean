import Derived.Test.YtabpkohcimiceabGreatAllX
import Derived.ChangeOld
import Derived.Deep.Slices
namespace Go.Proofs.YtabpkohcimiceabGreat
set_option maxRecDepth 100000
set_option maxHeartbeats 1000000
open Go.RowKit
set_option linter.unusedVariables false
set_option linter.unusedSimpArgs false
theorem WOut.after {G base : Nat} {v : Value} {L : List ByteArray} {w w2 w3 : World} (hb : Below w.heap.size w w2) (h : WOut G base v L w2 w3) : WOut G base v L w w3 := ⟨h.1, (Only.of_below hb).trans h.2⟩
theorem step_create (G base : Nat) (A B : ByteArray) (v : Value) (L : List ByteArray) (kd who nn dr o0 o1 o2 o3 : Int) (tx ty : ByteArray) (cut : Bool) (w : World) (hW : WAt G base A B v L w) (hGb : G < base) (hbase : base ≤ w.heap.size) (hLb : (L.length + 1) * 16 ≤ 140737488355328) (hn : (Lit.int .i64 nn).wf = true) (hdr : (Lit.int .i64 dr).wf = true) (hx : tx.size ≤ maxLen) (hy : ty.size ≤ maxLen) (hc0 : (Lit.int .i64 o0).wf = true) (hc1 : (Lit.int .i64 o1).wf = true) (hc2 : (Lit.int .i64 o2).wf = true) (hc3 : (Lit.int .i64 o3).wf = true) (h1 : kd ≠ 1) (h2 : kd ≠ 2) (h3 : kd ≠ 3) (h8 : kd ≠ 8) (hk : kd = 4) :
    Calls Tryz.prog 4 #[.pointer (some ⟨G, 0, none⟩), .agg #[.int .i64 kd, .int .i64 who, .int .i64 nn, .int .i64 dr, .int .i64 o0, .int .i64 o1, .int .i64 o2, .int .i64 o3, .string tx, .string ty, .bool cut]] w fun e w' => e = .returned (.bool true) ∧ WOut G base v L w w' := by
  have hGlt := hW.lt; have HWW := hid hW
  have hro : ∀ k, v.ownBlock = some k → k < w.heap.size := fun k q => (hW.row.lt k q).2
  have HRO := hid hro
  have c0 := fun (w0 : World) (hb : w.heap.size ≤ w0.heap.size) (hA : WAt G base A B v L w0) => given_none G base A B v L kd who nn dr o0 o1 o2 o3 tx ty cut w0 hA hGb (by omega) hLb hn hdr hx hy h1 h2 h3 h8
  have c2 := fun w0 hA => makes_any G base A B v L kd who nn dr o0 o1 o2 o3 tx ty cut w0 hA hGb hn hdr hx hy hc0 hc1 hc2 hc3
  have nk : (kd == 4) = true := by rw [beq_iff_eq]; exact hk
  clear hk; clear h1 h2 h3 h8 hro
  go_enter Tryz.func4, Tryz.ntmps4
  go_upto_region 1 with fail
  obtain ⟨ob, eob⟩ : ∃ ob, ob = Obj.cells #[.int .i64 kd, .int .i64 who, .int .i64 nn, .int .i64 dr, .int .i64 o0, .int .i64 o1, .int .i64 o2, .int .i64 o3, .string tx, .string ty, .bool cut] 31 := ⟨_, rfl⟩
  rw [← eob]; have hO := heap_alloc_new w ob; have hWa : Below w.heap.size w (w.alloc ob) := (Below.refl _ _).alloc (Nat.le_refl _) _
  have hlt : w.heap.size < (w.alloc ob).heap.size := by simp
  generalize (w.alloc ob) = wa at hO hWa hlt ⊢
  subst eob; have HO := hid hO; have HWa := hid hWa; have HA := hid (hW.next hWa); obtain ⟨k0, k1, k2, k3, k4, k5, k6, k7, k8, k9, k10⟩ := cells11 hO; clear hO hWa
  go_upto_region 4 with (first | (go_at_call 5; (with_reducible refine (c0 _ (by omega) HA.out).mono ?_); rintro e w2 ⟨rfl, hb2⟩))
  have HA2 := hid (HA.out.next hb2)
  have hO2 := (hb2.block w.heap.size (by omega)).trans HO.out
  have HW2 := hid (below_tr HWa.out hb2); have hs2 := hb2.size; clear k0 k1 k2 k3 k4 k5 k6 k7 k8 k9 k10 c0 hb2; obtain ⟨k0, k1, k2, k3, k4, k5, k6, k7, k8, k9, k10⟩ := cells11 hO2; have HO2 := hid hO2; clear hO2
  go_wp2_with (first | (go_at_call 6; (with_reducible refine (c2 _ HA2.out).mono ?_); rintro e w3 ⟨rfl, ho3⟩; have HO3 := hid ho3; clear ho3))
  go_ret; exact ⟨rfl, WOut.after HW2.out HO3.out⟩
theorem step_recover (G base : Nat) (A B : ByteArray) (v : Value) (L : List ByteArray) (kd who nn dr o0 o1 o2 o3 : Int) (tx ty : ByteArray) (cut : Bool) (w : World) (hW : WAt G base A B v L w) (hGb : G < base) (hbase : base ≤ w.heap.size) (hLb : (L.length + 1) * 16 ≤ 140737488355328) (hn : (Lit.int .i64 nn).wf = true) (hdr : (Lit.int .i64 dr).wf = true) (hx : tx.size ≤ maxLen) (hy : ty.size ≤ maxLen) (hc0 : (Lit.int .i64 o0).wf = true) (hc1 : (Lit.int .i64 o1).wf = true) (hc2 : (Lit.int .i64 o2).wf = true) (hc3 : (Lit.int .i64 o3).wf = true) (h1 : kd ≠ 1) (h2 : kd ≠ 2) (h3 : kd ≠ 3) (h8 : kd ≠ 8) (hk : kd = 10) :
    Calls Tryz.prog 4 #[.pointer (some ⟨G, 0, none⟩), .agg #[.int .i64 kd, .int .i64 who, .int .i64 nn, .int .i64 dr, .int .i64 o0, .int .i64 o1, .int .i64 o2, .int .i64 o3, .string tx, .string ty, .bool cut]] w fun e w' => e = .returned (.bool true) ∧ WOut G base v L w w' := by
  have hGlt := hW.lt; have HWW := hid hW
  have hro : ∀ k, v.ownBlock = some k → k < w.heap.size := fun k q => (hW.row.lt k q).2
  have HRO := hid hro
  have c0 := fun (w0 : World) (hb : w.heap.size ≤ w0.heap.size) (hA : WAt G base A B v L w0) => given_none G base A B v L kd who nn dr o0 o1 o2 o3 tx ty cut w0 hA hGb (by omega) hLb hn hdr hx hy h1 h2 h3 h8
  have c2 := fun w0 hA => makes_any G base A B v L kd who nn dr o0 o1 o2 o3 tx ty cut w0 hA hGb hn hdr hx hy hc0 hc1 hc2 hc3
  have n4 : (kd == 4) = false := by rw [beq_eq_false_iff_ne]; omega
  have nk : (kd == 10) = true := by rw [beq_iff_eq]; exact hk
  clear hk; clear h1 h2 h3 h8 hro
  go_enter Tryz.func4, Tryz.ntmps4
  go_upto_region 1 with fail
  obtain ⟨ob, eob⟩ : ∃ ob, ob = Obj.cells #[.int .i64 kd, .int .i64 who, .int .i64 nn, .int .i64 dr, .int .i64 o0, .int .i64 o1, .int .i64 o2, .int .i64 o3, .string tx, .string ty, .bool cut] 31 := ⟨_, rfl⟩
  rw [← eob]; have hO := heap_alloc_new w ob; have hWa : Below w.heap.size w (w.alloc ob) := (Below.refl _ _).alloc (Nat.le_refl _) _
  have hlt : w.heap.size < (w.alloc ob).heap.size := by simp
  generalize (w.alloc ob) = wa at hO hWa hlt ⊢
  subst eob; have HO := hid hO; have HWa := hid hWa; have HA := hid (hW.next hWa); obtain ⟨k0, k1, k2, k3, k4, k5, k6, k7, k8, k9, k10⟩ := cells11 hO; clear hO hWa
  go_upto_region 4 with (first | (go_at_call 5; (with_reducible refine (c0 _ (by omega) HA.out).mono ?_); rintro e w2 ⟨rfl, hb2⟩))
  have HA2 := hid (HA.out.next hb2)
  have hO2 := (hb2.block w.heap.size (by omega)).trans HO.out
  have HW2 := hid (below_tr HWa.out hb2); have hs2 := hb2.size; clear k0 k1 k2 k3 k4 k5 k6 k7 k8 k9 k10 c0 hb2; obtain ⟨k0, k1, k2, k3, k4, k5, k6, k7, k8, k9, k10⟩ := cells11 hO2; have HO2 := hid hO2; clear hO2
  go_wp2_with (first | (go_at_call 6; (with_reducible refine (c2 _ HA2.out).mono ?_); rintro e w3 ⟨rfl, ho3⟩; have HO3 := hid ho3; clear ho3))
  go_ret; exact ⟨rfl, WOut.after HW2.out HO3.out⟩
theorem step_send (G base : Nat) (A B : ByteArray) (v : Value) (L : List ByteArray) (kd who nn dr o0 o1 o2 o3 : Int) (tx ty : ByteArray) (cut : Bool) (w : World) (hW : WAt G base A B v L w) (hGb : G < base) (hbase : base ≤ w.heap.size) (hLb : (L.length + 1) * 16 ≤ 140737488355328) (hn : (Lit.int .i64 nn).wf = true) (hdr : (Lit.int .i64 dr).wf = true) (hx : tx.size ≤ maxLen) (hy : ty.size ≤ maxLen) (hc0 : (Lit.int .i64 o0).wf = true) (hc1 : (Lit.int .i64 o1).wf = true) (hc2 : (Lit.int .i64 o2).wf = true) (hc3 : (Lit.int .i64 o3).wf = true) (h1 : kd ≠ 1) (h2 : kd ≠ 2) (h3 : kd ≠ 3) (h8 : kd ≠ 8) (hk : kd = 5) :
    Calls Tryz.prog 4 #[.pointer (some ⟨G, 0, none⟩), .agg #[.int .i64 kd, .int .i64 who, .int .i64 nn, .int .i64 dr, .int .i64 o0, .int .i64 o1, .int .i64 o2, .int .i64 o3, .string tx, .string ty, .bool cut]] w fun e w' => e = .returned (.bool true) ∧ WOut G base v L w w' := by
  have hGlt := hW.lt; have HWW := hid hW
  have hro : ∀ k, v.ownBlock = some k → k < w.heap.size := fun k q => (hW.row.lt k q).2
  have HRO := hid hro
  have c0 := fun (w0 : World) (hb : w.heap.size ≤ w0.heap.size) (hA : WAt G base A B v L w0) => given_none G base A B v L kd who nn dr o0 o1 o2 o3 tx ty cut w0 hA hGb (by omega) hLb hn hdr hx hy h1 h2 h3 h8
  have c2 := fun w0 (hb : w.heap.size ≤ w0.heap.size) hA => wWrites_any G base A B v L kd who nn dr o0 o1 o2 o3 tx ty cut w0 hA hGb (by omega) hLb hn hdr hx hy
  have n4 : (kd == 4) = false := by rw [beq_eq_false_iff_ne]; omega
  have n10 : (kd == 10) = false := by rw [beq_eq_false_iff_ne]; omega
  have nk : (kd == 5) = true := by rw [beq_iff_eq]; exact hk
  clear hk; clear h1 h2 h3 h8 hro
  go_enter Tryz.func4, Tryz.ntmps4
  go_upto_region 1 with fail
  obtain ⟨ob, eob⟩ : ∃ ob, ob = Obj.cells #[.int .i64 kd, .int .i64 who, .int .i64 nn, .int .i64 dr, .int .i64 o0, .int .i64 o1, .int .i64 o2, .int .i64 o3, .string tx, .string ty, .bool cut] 31 := ⟨_, rfl⟩
  rw [← eob]; have hO := heap_alloc_new w ob; have hWa : Below w.heap.size w (w.alloc ob) := (Below.refl _ _).alloc (Nat.le_refl _) _
  have hlt : w.heap.size < (w.alloc ob).heap.size := by simp
  generalize (w.alloc ob) = wa at hO hWa hlt ⊢
  subst eob; have HO := hid hO; have HWa := hid hWa; have HA := hid (hW.next hWa); obtain ⟨k0, k1, k2, k3, k4, k5, k6, k7, k8, k9, k10⟩ := cells11 hO; clear hO hWa
  go_upto_region 4 with (first | (go_at_call 5; (with_reducible refine (c0 _ (by omega) HA.out).mono ?_); rintro e w2 ⟨rfl, hb2⟩))
  have HA2 := hid (HA.out.next hb2)
  have hO2 := (hb2.block w.heap.size (by omega)).trans HO.out
  have HW2 := hid (below_tr HWa.out hb2); have hs2 := hb2.size; clear k0 k1 k2 k3 k4 k5 k6 k7 k8 k9 k10 c0 hb2; obtain ⟨k0, k1, k2, k3, k4, k5, k6, k7, k8, k9, k10⟩ := cells11 hO2; have HO2 := hid hO2; clear hO2
  go_wp2_with (first | (go_at_call 7; (with_reducible refine (c2 _ (by omega) HA2.out).mono ?_); rintro e w3 ⟨rfl, ho3⟩; have HO3 := hid ho3; clear ho3))
  go_ret; exact ⟨rfl, WOut.after HW2.out HO3.out⟩
theorem step_raw (G base : Nat) (A B : ByteArray) (v : Value) (L : List ByteArray) (kd who nn dr o0 o1 o2 o3 : Int) (tx ty : ByteArray) (cut : Bool) (w : World) (hW : WAt G base A B v L w) (hGb : G < base) (hbase : base ≤ w.heap.size) (hLb : (L.length + 1) * 16 ≤ 140737488355328) (hn : (Lit.int .i64 nn).wf = true) (hdr : (Lit.int .i64 dr).wf = true) (hx : tx.size ≤ maxLen) (hy : ty.size ≤ maxLen) (hc0 : (Lit.int .i64 o0).wf = true) (hc1 : (Lit.int .i64 o1).wf = true) (hc2 : (Lit.int .i64 o2).wf = true) (hc3 : (Lit.int .i64 o3).wf = true) (h1 : kd ≠ 1) (h2 : kd ≠ 2) (h3 : kd ≠ 3) (h8 : kd ≠ 8) (hk : kd = 7) :
    Calls Tryz.prog 4 #[.pointer (some ⟨G, 0, none⟩), .agg #[.int .i64 kd, .int .i64 who, .int .i64 nn, .int .i64 dr, .int .i64 o0, .int .i64 o1, .int .i64 o2, .int .i64 o3, .string tx, .string ty, .bool cut]] w fun e w' => e = .returned (.bool true) ∧ WOut G base v L w w' := by
  have hGlt := hW.lt; have HWW := hid hW
  have hro : ∀ k, v.ownBlock = some k → k < w.heap.size := fun k q => (hW.row.lt k q).2
  have HRO := hid hro
  have c0 := fun (w0 : World) (hb : w.heap.size ≤ w0.heap.size) (hA : WAt G base A B v L w0) => given_none G base A B v L kd who nn dr o0 o1 o2 o3 tx ty cut w0 hA hGb (by omega) hLb hn hdr hx hy h1 h2 h3 h8
  have c2 := fun w0 hA => takes_any G base A B v L kd who nn dr o0 o1 o2 o3 tx ty cut tx w0 hA hGb hn hdr hx hy hx
  have n4 : (kd == 4) = false := by rw [beq_eq_false_iff_ne]; omega
  have n10 : (kd == 10) = false := by rw [beq_eq_false_iff_ne]; omega
  have n5 : (kd == 5) = false := by rw [beq_eq_false_iff_ne]; omega
  have n6 : (kd == 6) = false := by rw [beq_eq_false_iff_ne]; omega
  have nk : (kd == 7) = true := by rw [beq_iff_eq]; exact hk
  clear hk; clear h1 h2 h3 h8 hro
  go_enter Tryz.func4, Tryz.ntmps4
  go_upto_region 1 with fail
  obtain ⟨ob, eob⟩ : ∃ ob, ob = Obj.cells #[.int .i64 kd, .int .i64 who, .int .i64 nn, .int .i64 dr, .int .i64 o0, .int .i64 o1, .int .i64 o2, .int .i64 o3, .string tx, .string ty, .bool cut] 31 := ⟨_, rfl⟩
  rw [← eob]; have hO := heap_alloc_new w ob; have hWa : Below w.heap.size w (w.alloc ob) := (Below.refl _ _).alloc (Nat.le_refl _) _
  have hlt : w.heap.size < (w.alloc ob).heap.size := by simp
  generalize (w.alloc ob) = wa at hO hWa hlt ⊢
  subst eob; have HO := hid hO; have HWa := hid hWa; have HA := hid (hW.next hWa); obtain ⟨k0, k1, k2, k3, k4, k5, k6, k7, k8, k9, k10⟩ := cells11 hO; clear hO hWa
  go_upto_region 4 with (first | (go_at_call 5; (with_reducible refine (c0 _ (by omega) HA.out).mono ?_); rintro e w2 ⟨rfl, hb2⟩))
  have HA2 := hid (HA.out.next hb2)
  have hO2 := (hb2.block w.heap.size (by omega)).trans HO.out
  have HW2 := hid (below_tr HWa.out hb2); have hs2 := hb2.size; clear k0 k1 k2 k3 k4 k5 k6 k7 k8 k9 k10 c0 hb2; obtain ⟨k0, k1, k2, k3, k4, k5, k6, k7, k8, k9, k10⟩ := cells11 hO2; have HO2 := hid hO2; clear hO2
  go_wp2_with (first | (go_at_call 8; (with_reducible refine (c2 _ HA2.out).mono ?_); rintro e w3 ⟨rfl, ho3⟩; have HO3 := hid ho3; clear ho3))
  go_ret; exact ⟨rfl, WOut.after HW2.out HO3.out⟩
theorem step_look (G base : Nat) (A B : ByteArray) (v : Value) (L : List ByteArray) (kd who nn dr o0 o1 o2 o3 : Int) (tx ty : ByteArray) (cut : Bool) (w : World) (hW : WAt G base A B v L w) (hGb : G < base) (hbase : base ≤ w.heap.size) (hLb : (L.length + 1) * 16 ≤ 140737488355328) (hn : (Lit.int .i64 nn).wf = true) (hdr : (Lit.int .i64 dr).wf = true) (hx : tx.size ≤ maxLen) (hy : ty.size ≤ maxLen) (hc0 : (Lit.int .i64 o0).wf = true) (hc1 : (Lit.int .i64 o1).wf = true) (hc2 : (Lit.int .i64 o2).wf = true) (hc3 : (Lit.int .i64 o3).wf = true) (h1 : kd ≠ 1) (h2 : kd ≠ 2) (h3 : kd ≠ 3) (h8 : kd ≠ 8) (hk : kd = 9) :
    Calls Tryz.prog 4 #[.pointer (some ⟨G, 0, none⟩), .agg #[.int .i64 kd, .int .i64 who, .int .i64 nn, .int .i64 dr, .int .i64 o0, .int .i64 o1, .int .i64 o2, .int .i64 o3, .string tx, .string ty, .bool cut]] w fun e w' => e = .returned (.bool true) ∧ WOut G base v L w w' := by
  have hGlt := hW.lt; have HWW := hid hW
  have hro : ∀ k, v.ownBlock = some k → k < w.heap.size := fun k q => (hW.row.lt k q).2
  have HRO := hid hro
  have c0 := fun (w0 : World) (hb : w.heap.size ≤ w0.heap.size) (hA : WAt G base A B v L w0) => given_none G base A B v L kd who nn dr o0 o1 o2 o3 tx ty cut w0 hA hGb (by omega) hLb hn hdr hx hy h1 h2 h3 h8
  have hdd := disk_le who hW.a hW.b
  have c1 := fun w hG => wDisk_any G A B v who w hG
  have c2 := fun w => looked_any (diskOf A B who) w hdd
  have n4 : (kd == 4) = false := by rw [beq_eq_false_iff_ne]; omega
  have n10 : (kd == 10) = false := by rw [beq_eq_false_iff_ne]; omega
  have n5 : (kd == 5) = false := by rw [beq_eq_false_iff_ne]; omega
  have n6 : (kd == 6) = false := by rw [beq_eq_false_iff_ne]; omega
  have n7 : (kd == 7) = false := by rw [beq_eq_false_iff_ne]; omega
  have nk : (kd == 9) = true := by rw [beq_iff_eq]; exact hk
  clear hk; clear h1 h2 h3 h8 hro
  go_enter Tryz.func4, Tryz.ntmps4
  go_upto_region 1 with fail
  obtain ⟨ob, eob⟩ : ∃ ob, ob = Obj.cells #[.int .i64 kd, .int .i64 who, .int .i64 nn, .int .i64 dr, .int .i64 o0, .int .i64 o1, .int .i64 o2, .int .i64 o3, .string tx, .string ty, .bool cut] 31 := ⟨_, rfl⟩
  rw [← eob]; have hO := heap_alloc_new w ob; have hWa : Below w.heap.size w (w.alloc ob) := (Below.refl _ _).alloc (Nat.le_refl _) _
  have hlt : w.heap.size < (w.alloc ob).heap.size := by simp
  generalize (w.alloc ob) = wa at hO hWa hlt ⊢
  subst eob; have HO := hid hO; have HWa := hid hWa; have HA := hid (hW.next hWa); obtain ⟨k0, k1, k2, k3, k4, k5, k6, k7, k8, k9, k10⟩ := cells11 hO; clear hO hWa
  go_upto_region 4 with (first | (go_at_call 5; (with_reducible refine (c0 _ (by omega) HA.out).mono ?_); rintro e w2 ⟨rfl, hb2⟩))
  have HA2 := hid (HA.out.next hb2)
  have hO2 := (hb2.block w.heap.size (by omega)).trans HO.out
  have HW2 := hid (below_tr HWa.out hb2); have hs2 := hb2.size; clear k0 k1 k2 k3 k4 k5 k6 k7 k8 k9 k10 c0 hb2; obtain ⟨k0, k1, _, _, _, _, _, _, _, _, _⟩ := cells11 hO2; have HO2 := hid hO2; clear hO2
  go_wp2_with (first | (go_at_call 11; (with_reducible refine (c1 _ HA2.out.blk).mono ?_); rintro e w' ⟨rfl, hw⟩; rw [hw]; clear hw w') | (go_at_call 10; (with_reducible refine (c2 _).mono ?_); rintro e w3 ⟨rfl, hb3⟩))
  go_ret; exact ⟨rfl, WOut.same HWW.out (below_tr HW2.out hb3)⟩
theorem step_mix (G base : Nat) (A B : ByteArray) (v : Value) (L : List ByteArray) (kd who nn dr o0 o1 o2 o3 : Int) (tx ty : ByteArray) (cut : Bool) (w : World) (hW : WAt G base A B v L w) (hGb : G < base) (hbase : base ≤ w.heap.size) (hLb : (L.length + 1) * 16 ≤ 140737488355328) (hn : (Lit.int .i64 nn).wf = true) (hdr : (Lit.int .i64 dr).wf = true) (hx : tx.size ≤ maxLen) (hy : ty.size ≤ maxLen) (hc0 : (Lit.int .i64 o0).wf = true) (hc1 : (Lit.int .i64 o1).wf = true) (hc2 : (Lit.int .i64 o2).wf = true) (hc3 : (Lit.int .i64 o3).wf = true) (h1 : kd ≠ 1) (h2 : kd ≠ 2) (h3 : kd ≠ 3) (h8 : kd ≠ 8) (hk : kd = 12) :
    Calls Tryz.prog 4 #[.pointer (some ⟨G, 0, none⟩), .agg #[.int .i64 kd, .int .i64 who, .int .i64 nn, .int .i64 dr, .int .i64 o0, .int .i64 o1, .int .i64 o2, .int .i64 o3, .string tx, .string ty, .bool cut]] w fun e w' => e = .returned (.bool true) ∧ WOut G base v L w w' := by
  have hGlt := hW.lt; have HWW := hid hW
  have hro : ∀ k, v.ownBlock = some k → k < w.heap.size := fun k q => (hW.row.lt k q).2
  have HRO := hid hro
  have c0 := fun (w0 : World) (hb : w.heap.size ≤ w0.heap.size) (hA : WAt G base A B v L w0) => given_none G base A B v L kd who nn dr o0 o1 o2 o3 tx ty cut w0 hA hGb (by omega) hLb hn hdr hx hy h1 h2 h3 h8
  have c2 := fun w => mixes_walk tx ty hx hy w
  have n4 : (kd == 4) = false := by rw [beq_eq_false_iff_ne]; omega
  have n10 : (kd == 10) = false := by rw [beq_eq_false_iff_ne]; omega
  have n5 : (kd == 5) = false := by rw [beq_eq_false_iff_ne]; omega
  have n6 : (kd == 6) = false := by rw [beq_eq_false_iff_ne]; omega
  have n7 : (kd == 7) = false := by rw [beq_eq_false_iff_ne]; omega
  have n9 : (kd == 9) = false := by rw [beq_eq_false_iff_ne]; omega
  have n11 : (kd == 11) = false := by rw [beq_eq_false_iff_ne]; omega
  have nk : (kd == 12) = true := by rw [beq_iff_eq]; exact hk
  clear hk; clear h1 h2 h3 h8 hro
  go_enter Tryz.func4, Tryz.ntmps4
  go_upto_region 1 with fail
  obtain ⟨ob, eob⟩ : ∃ ob, ob = Obj.cells #[.int .i64 kd, .int .i64 who, .int .i64 nn, .int .i64 dr, .int .i64 o0, .int .i64 o1, .int .i64 o2, .int .i64 o3, .string tx, .string ty, .bool cut] 31 := ⟨_, rfl⟩
  rw [← eob]; have hO := heap_alloc_new w ob; have hWa : Below w.heap.size w (w.alloc ob) := (Below.refl _ _).alloc (Nat.le_refl _) _
  have hlt : w.heap.size < (w.alloc ob).heap.size := by simp
  generalize (w.alloc ob) = wa at hO hWa hlt ⊢
  subst eob; have HO := hid hO; have HWa := hid hWa; have HA := hid (hW.next hWa); obtain ⟨k0, k1, k2, k3, k4, k5, k6, k7, k8, k9, k10⟩ := cells11 hO; clear hO hWa
  go_upto_region 4 with (first | (go_at_call 5; (with_reducible refine (c0 _ (by omega) HA.out).mono ?_); rintro e w2 ⟨rfl, hb2⟩))
  have HA2 := hid (HA.out.next hb2)
  have hO2 := (hb2.block w.heap.size (by omega)).trans HO.out
  have HW2 := hid (below_tr HWa.out hb2); have hs2 := hb2.size; clear k0 k1 k2 k3 k4 k5 k6 k7 k8 k9 k10 c0 hb2; obtain ⟨k0, _, _, _, _, _, _, _, k8, k9, _⟩ := cells11 hO2; have HO2 := hid hO2; clear hO2
  go_wp2_with (first | (go_at_call 13; (with_reducible refine (c2 _).mono ?_); rintro e w3 ⟨rfl, hb3⟩))
  go_ret; exact ⟨rfl, WOut.same HWW.out (below_tr HW2.out hb3)⟩
theorem step_power (G base : Nat) (A B : ByteArray) (v : Value) (L : List ByteArray) (kd who nn dr o0 o1 o2 o3 : Int) (tx ty : ByteArray) (cut : Bool) (w : World) (hW : WAt G base A B v L w) (hGb : G < base) (hbase : base ≤ w.heap.size) (hLb : (L.length + 1) * 16 ≤ 140737488355328) (hn : (Lit.int .i64 nn).wf = true) (hdr : (Lit.int .i64 dr).wf = true) (hx : tx.size ≤ maxLen) (hy : ty.size ≤ maxLen) (hc0 : (Lit.int .i64 o0).wf = true) (hc1 : (Lit.int .i64 o1).wf = true) (hc2 : (Lit.int .i64 o2).wf = true) (hc3 : (Lit.int .i64 o3).wf = true) (h1 : kd ≠ 1) (h2 : kd ≠ 2) (h3 : kd ≠ 3) (h8 : kd ≠ 8) (hk : kd = 13) :
    Calls Tryz.prog 4 #[.pointer (some ⟨G, 0, none⟩), .agg #[.int .i64 kd, .int .i64 who, .int .i64 nn, .int .i64 dr, .int .i64 o0, .int .i64 o1, .int .i64 o2, .int .i64 o3, .string tx, .string ty, .bool cut]] w fun e w' => e = .returned (.bool true) ∧ WOut G base v L w w' := by
  have hGlt := hW.lt; have HWW := hid hW
  have hro : ∀ k, v.ownBlock = some k → k < w.heap.size := fun k q => (hW.row.lt k q).2
  have HRO := hid hro
  have c0 := fun (w0 : World) (hb : w.heap.size ≤ w0.heap.size) (hA : WAt G base A B v L w0) => given_none G base A B v L kd who nn dr o0 o1 o2 o3 tx ty cut w0 hA hGb (by omega) hLb hn hdr hx hy h1 h2 h3 h8
  have c2 := fun w => powers_walk dr nn hdr hn w
  have n4 : (kd == 4) = false := by rw [beq_eq_false_iff_ne]; omega
  have n10 : (kd == 10) = false := by rw [beq_eq_false_iff_ne]; omega
  have n5 : (kd == 5) = false := by rw [beq_eq_false_iff_ne]; omega
  have n6 : (kd == 6) = false := by rw [beq_eq_false_iff_ne]; omega
  have n7 : (kd == 7) = false := by rw [beq_eq_false_iff_ne]; omega
  have n9 : (kd == 9) = false := by rw [beq_eq_false_iff_ne]; omega
  have n11 : (kd == 11) = false := by rw [beq_eq_false_iff_ne]; omega
  have n12 : (kd == 12) = false := by rw [beq_eq_false_iff_ne]; omega
  have nk : (kd == 13) = true := by rw [beq_iff_eq]; exact hk
  clear hk; clear h1 h2 h3 h8 hro
  go_enter Tryz.func4, Tryz.ntmps4
  go_upto_region 1 with fail
  obtain ⟨ob, eob⟩ : ∃ ob, ob = Obj.cells #[.int .i64 kd, .int .i64 who, .int .i64 nn, .int .i64 dr, .int .i64 o0, .int .i64 o1, .int .i64 o2, .int .i64 o3, .string tx, .string ty, .bool cut] 31 := ⟨_, rfl⟩
  rw [← eob]; have hO := heap_alloc_new w ob; have hWa : Below w.heap.size w (w.alloc ob) := (Below.refl _ _).alloc (Nat.le_refl _) _
  have hlt : w.heap.size < (w.alloc ob).heap.size := by simp
  generalize (w.alloc ob) = wa at hO hWa hlt ⊢
  subst eob; have HO := hid hO; have HWa := hid hWa; have HA := hid (hW.next hWa); obtain ⟨k0, k1, k2, k3, k4, k5, k6, k7, k8, k9, k10⟩ := cells11 hO; clear hO hWa
  go_upto_region 4 with (first | (go_at_call 5; (with_reducible refine (c0 _ (by omega) HA.out).mono ?_); rintro e w2 ⟨rfl, hb2⟩))
  have HA2 := hid (HA.out.next hb2)
  have hO2 := (hb2.block w.heap.size (by omega)).trans HO.out
  have HW2 := hid (below_tr HWa.out hb2); have hs2 := hb2.size; clear k0 k1 k2 k3 k4 k5 k6 k7 k8 k9 k10 c0 hb2; obtain ⟨k0, _, k2, k3, _, _, _, _, _, _, _⟩ := cells11 hO2; have HO2 := hid hO2; clear hO2
  go_wp2_with (first | (go_at_call 14; (with_reducible refine (c2 _).mono ?_); rintro e w3 ⟨rfl, hb3⟩))
  go_ret; exact ⟨rfl, WOut.same HWW.out (below_tr HW2.out hb3)⟩
theorem step_none (G base : Nat) (A B : ByteArray) (v : Value) (L : List ByteArray) (kd who nn dr o0 o1 o2 o3 : Int) (tx ty : ByteArray) (cut : Bool) (w : World) (hW : WAt G base A B v L w) (hGb : G < base) (hbase : base ≤ w.heap.size) (hLb : (L.length + 1) * 16 ≤ 140737488355328) (hn : (Lit.int .i64 nn).wf = true) (hdr : (Lit.int .i64 dr).wf = true) (hx : tx.size ≤ maxLen) (hy : ty.size ≤ maxLen) (hc0 : (Lit.int .i64 o0).wf = true) (hc1 : (Lit.int .i64 o1).wf = true) (hc2 : (Lit.int .i64 o2).wf = true) (hc3 : (Lit.int .i64 o3).wf = true) (h1 : kd ≠ 1) (h2 : kd ≠ 2) (h3 : kd ≠ 3) (h8 : kd ≠ 8) (m4 : kd ≠ 4) (m10 : kd ≠ 10) (m5 : kd ≠ 5) (m6 : kd ≠ 6) (m7 : kd ≠ 7) (m9 : kd ≠ 9) (m11 : kd ≠ 11) (m12 : kd ≠ 12) (m13 : kd ≠ 13) (m14 : kd ≠ 14) :
    Calls Tryz.prog 4 #[.pointer (some ⟨G, 0, none⟩), .agg #[.int .i64 kd, .int .i64 who, .int .i64 nn, .int .i64 dr, .int .i64 o0, .int .i64 o1, .int .i64 o2, .int .i64 o3, .string tx, .string ty, .bool cut]] w fun e w' => e = .returned (.bool true) ∧ WOut G base v L w w' := by
  have hGlt := hW.lt; have HWW := hid hW
  have hro : ∀ k, v.ownBlock = some k → k < w.heap.size := fun k q => (hW.row.lt k q).2
  have HRO := hid hro
  have c0 := fun (w0 : World) (hb : w.heap.size ≤ w0.heap.size) (hA : WAt G base A B v L w0) => given_none G base A B v L kd who nn dr o0 o1 o2 o3 tx ty cut w0 hA hGb (by omega) hLb hn hdr hx hy h1 h2 h3 h8
  have n4 : (kd == 4) = false := by rw [beq_eq_false_iff_ne]; omega
  have n10 : (kd == 10) = false := by rw [beq_eq_false_iff_ne]; omega
  have n5 : (kd == 5) = false := by rw [beq_eq_false_iff_ne]; omega
  have n6 : (kd == 6) = false := by rw [beq_eq_false_iff_ne]; omega
  have n7 : (kd == 7) = false := by rw [beq_eq_false_iff_ne]; omega
  have n9 : (kd == 9) = false := by rw [beq_eq_false_iff_ne]; omega
  have n11 : (kd == 11) = false := by rw [beq_eq_false_iff_ne]; omega
  have n12 : (kd == 12) = false := by rw [beq_eq_false_iff_ne]; omega
  have n13 : (kd == 13) = false := by rw [beq_eq_false_iff_ne]; omega
  have n14 : (kd == 14) = false := by rw [beq_eq_false_iff_ne]; omega
  clear h1 h2 h3 h8 hro
  go_enter Tryz.func4, Tryz.ntmps4
  go_upto_region 1 with fail
  obtain ⟨ob, eob⟩ : ∃ ob, ob = Obj.cells #[.int .i64 kd, .int .i64 who, .int .i64 nn, .int .i64 dr, .int .i64 o0, .int .i64 o1, .int .i64 o2, .int .i64 o3, .string tx, .string ty, .bool cut] 31 := ⟨_, rfl⟩
  rw [← eob]; have hO := heap_alloc_new w ob; have hWa : Below w.heap.size w (w.alloc ob) := (Below.refl _ _).alloc (Nat.le_refl _) _
  have hlt : w.heap.size < (w.alloc ob).heap.size := by simp
  generalize (w.alloc ob) = wa at hO hWa hlt ⊢
  subst eob; have HO := hid hO; have HWa := hid hWa; have HA := hid (hW.next hWa); obtain ⟨k0, k1, k2, k3, k4, k5, k6, k7, k8, k9, k10⟩ := cells11 hO; clear hO hWa
  go_upto_region 4 with (first | (go_at_call 5; (with_reducible refine (c0 _ (by omega) HA.out).mono ?_); rintro e w2 ⟨rfl, hb2⟩))
  have HA2 := hid (HA.out.next hb2)
  have hO2 := (hb2.block w.heap.size (by omega)).trans HO.out
  have HW2 := hid (below_tr HWa.out hb2); have hs2 := hb2.size; clear k0 k1 k2 k3 k4 k5 k6 k7 k8 k9 k10 c0 hb2; have k0 : w2.cell? ⟨w.heap.size, 0, none⟩ = some (.int .i64 kd) := cell_of_row w2 _ 0 _ _ _ hO2; have HO2 := hid hO2; clear hO2; go_wp2; go_ret; exact ⟨rfl, WOut.same HWW.out HW2.out⟩
theorem step_plan (G base : Nat) (A B : ByteArray) (v : Value) (L : List ByteArray) (kd who nn dr o0 o1 o2 o3 : Int) (tx ty : ByteArray) (cut : Bool) (w : World) (hW : WAt G base A B v L w) (hGb : G < base) (hbase : base ≤ w.heap.size) (hLb : (L.length + 1) * 16 ≤ 140737488355328) (hn : (Lit.int .i64 nn).wf = true) (hdr : (Lit.int .i64 dr).wf = true) (hx : tx.size ≤ maxLen) (hy : ty.size ≤ maxLen) (hc0 : (Lit.int .i64 o0).wf = true) (hc1 : (Lit.int .i64 o1).wf = true) (hc2 : (Lit.int .i64 o2).wf = true) (hc3 : (Lit.int .i64 o3).wf = true) (h1 : kd ≠ 1) (h2 : kd ≠ 2) (h3 : kd ≠ 3) (h8 : kd ≠ 8) (hk : kd = 11) :
    Calls Tryz.prog 4 #[.pointer (some ⟨G, 0, none⟩), .agg #[.int .i64 kd, .int .i64 who, .int .i64 nn, .int .i64 dr, .int .i64 o0, .int .i64 o1, .int .i64 o2, .int .i64 o3, .string tx, .string ty, .bool cut]] w fun e w' => e = .returned (.bool true) ∧ WOut G base v L w w' := by
  have hGlt := hW.lt; have HWW := hid hW
  have hro : ∀ k, v.ownBlock = some k → k < w.heap.size := fun k q => (hW.row.lt k q).2
  have HRO := hid hro
  have c0 := fun (w0 : World) (hb : w.heap.size ≤ w0.heap.size) (hA : WAt G base A B v L w0) => given_none G base A B v L kd who nn dr o0 o1 o2 o3 tx ty cut w0 hA hGb (by omega) hLb hn hdr hx hy h1 h2 h3 h8
  have hdd := disk_le who hW.a hW.b
  have c1 := fun w hG => wDisk_any G A B v who w hG
  have c2 := fun w => replays_walk (diskOf A B who) tx nn ty hdd hx hn hy w
  have n4 : (kd == 4) = false := by rw [beq_eq_false_iff_ne]; omega
  have n10 : (kd == 10) = false := by rw [beq_eq_false_iff_ne]; omega
  have n5 : (kd == 5) = false := by rw [beq_eq_false_iff_ne]; omega
  have n6 : (kd == 6) = false := by rw [beq_eq_false_iff_ne]; omega
  have n7 : (kd == 7) = false := by rw [beq_eq_false_iff_ne]; omega
  have n9 : (kd == 9) = false := by rw [beq_eq_false_iff_ne]; omega
  have nk : (kd == 11) = true := by rw [beq_iff_eq]; exact hk
  clear hk; clear h1 h2 h3 h8 hro
  go_enter Tryz.func4, Tryz.ntmps4
  go_upto_region 1 with fail
  obtain ⟨ob, eob⟩ : ∃ ob, ob = Obj.cells #[.int .i64 kd, .int .i64 who, .int .i64 nn, .int .i64 dr, .int .i64 o0, .int .i64 o1, .int .i64 o2, .int .i64 o3, .string tx, .string ty, .bool cut] 31 := ⟨_, rfl⟩
  rw [← eob]; have hO := heap_alloc_new w ob; have hWa : Below w.heap.size w (w.alloc ob) := (Below.refl _ _).alloc (Nat.le_refl _) _
  have hlt : w.heap.size < (w.alloc ob).heap.size := by simp
  generalize (w.alloc ob) = wa at hO hWa hlt ⊢
  subst eob; have HO := hid hO; have HWa := hid hWa; have HA := hid (hW.next hWa); obtain ⟨k0, k1, k2, k3, k4, k5, k6, k7, k8, k9, k10⟩ := cells11 hO; clear hO hWa
  go_upto_region 4 with (first | (go_at_call 5; (with_reducible refine (c0 _ (by omega) HA.out).mono ?_); rintro e w2 ⟨rfl, hb2⟩))
  have HA2 := hid (HA.out.next hb2)
  have hO2 := (hb2.block w.heap.size (by omega)).trans HO.out
  have HW2 := hid (below_tr HWa.out hb2); have hs2 := hb2.size; clear k0 k1 k2 k3 k4 k5 k6 k7 k8 k9 k10 c0 hb2; obtain ⟨k0, k1, k2, _, _, _, _, _, k8, k9, _⟩ := cells11 hO2; have HO2 := hid hO2; clear hO2
  go_upto_region 18 with fail
  go_region_held3 (fun w' => w'.cell? ⟨w.heap.size, 1, none⟩ = some (.int .i64 who) ∧ w'.cell? ⟨w.heap.size, 2, none⟩ = some (.int .i64 nn) ∧ w'.cell? ⟨w.heap.size, 8, none⟩ = some (.string tx) ∧ w'.cell? ⟨w.heap.size, 9, none⟩ = some (.string ty)) (first | (simp [k1, k2, k8, k9]; done) | (simp [s1, s2, s8, s9]; done)) (first | (go_at_call 11; go_must (with_reducible refine (c1 _ (WAt.blk (HA2.out.next (by first | exact (Below.refl _ _).drew | exact Below.refl _ _)))).mono ?_); rintro e w' ⟨rfl, hw⟩; rw [hw]; clear hw w') | (go_at_call 12; go_must (with_reducible refine (c2 _).mono ?_); rintro e w3 ⟨rfl, hb3⟩; have hb3' : Below w2.heap.size w2 w3 := ⟨hb3.os, hb3.tape, hb3.output, hb3.size, hb3.block⟩; have hO3 := (hb3'.block w.heap.size (by omega)).trans HO2.out; obtain ⟨_, s1, s2, _, _, _, _, _, s8, _, _⟩ := cells11 hO3; have s9 : w3.cell? ⟨w.heap.size, 9, none⟩ = some (.string ty) := cell_of_row w3 _ 9 _ _ _ hO3))
  all_goals (have HB3 := hid hb3'; clear s1 k1 s2 k2 s8 k8 s9 k9 hb3 hb3' hO3)
  all_goals go_wp2
  all_goals go_ret
  all_goals exact ⟨rfl, WOut.same HWW.out (below_tr HW2.out HB3.out)⟩
theorem step_seal (G base : Nat) (A B : ByteArray) (v : Value) (L : List ByteArray) (kd who nn dr o0 o1 o2 o3 : Int) (tx ty : ByteArray) (cut : Bool) (w : World) (hW : WAt G base A B v L w) (hGb : G < base) (hbase : base ≤ w.heap.size) (hLb : (L.length + 1) * 16 ≤ 140737488355328) (hn : (Lit.int .i64 nn).wf = true) (hdr : (Lit.int .i64 dr).wf = true) (hx : tx.size ≤ maxLen) (hy : ty.size ≤ maxLen) (hc0 : (Lit.int .i64 o0).wf = true) (hc1 : (Lit.int .i64 o1).wf = true) (hc2 : (Lit.int .i64 o2).wf = true) (hc3 : (Lit.int .i64 o3).wf = true) (h1 : kd ≠ 1) (h2 : kd ≠ 2) (h3 : kd ≠ 3) (h8 : kd ≠ 8) (hk : kd = 14) :
    Calls Tryz.prog 4 #[.pointer (some ⟨G, 0, none⟩), .agg #[.int .i64 kd, .int .i64 who, .int .i64 nn, .int .i64 dr, .int .i64 o0, .int .i64 o1, .int .i64 o2, .int .i64 o3, .string tx, .string ty, .bool cut]] w fun e w' => e = .returned (.bool true) ∧ WOut G base v L w w' := by
  have hL2 : L.length ≤ maxLen := by unfold maxLen; omega
  have hGlt := hW.lt; have HWW := hid hW
  have hro : ∀ k, v.ownBlock = some k → k < w.heap.size := fun k q => (hW.row.lt k q).2
  have HRO := hid hro
  have c0 := fun (w0 : World) (hb : w.heap.size ≤ w0.heap.size) (hA : WAt G base A B v L w0) => given_none G base A B v L kd who nn dr o0 o1 o2 o3 tx ty cut w0 hA hGb (by omega) hLb hn hdr hx hy h1 h2 h3 h8
  have c2 := fun w hA => wLast_any G base A B v L w (WAt.blk hA) (WAt.row hA) hL2 (WAt.txt hA)
  have c3 := fun x w hx => lawHead_any x w hx
  have c4 := fun x w hz => seals_walk tx x ty hx hz hy w
  have n4 : (kd == 4) = false := by rw [beq_eq_false_iff_ne]; omega
  have n10 : (kd == 10) = false := by rw [beq_eq_false_iff_ne]; omega
  have n5 : (kd == 5) = false := by rw [beq_eq_false_iff_ne]; omega
  have n6 : (kd == 6) = false := by rw [beq_eq_false_iff_ne]; omega
  have n7 : (kd == 7) = false := by rw [beq_eq_false_iff_ne]; omega
  have n9 : (kd == 9) = false := by rw [beq_eq_false_iff_ne]; omega
  have n11 : (kd == 11) = false := by rw [beq_eq_false_iff_ne]; omega
  have n12 : (kd == 12) = false := by rw [beq_eq_false_iff_ne]; omega
  have n13 : (kd == 13) = false := by rw [beq_eq_false_iff_ne]; omega
  have nk : (kd == 14) = true := by rw [beq_iff_eq]; exact hk
  clear hk; clear h1 h2 h3 h8 hro
  go_enter Tryz.func4, Tryz.ntmps4
  go_upto_region 1 with fail
  obtain ⟨ob, eob⟩ : ∃ ob, ob = Obj.cells #[.int .i64 kd, .int .i64 who, .int .i64 nn, .int .i64 dr, .int .i64 o0, .int .i64 o1, .int .i64 o2, .int .i64 o3, .string tx, .string ty, .bool cut] 31 := ⟨_, rfl⟩
  rw [← eob]; have hO := heap_alloc_new w ob; have hWa : Below w.heap.size w (w.alloc ob) := (Below.refl _ _).alloc (Nat.le_refl _) _
  have hlt : w.heap.size < (w.alloc ob).heap.size := by simp
  generalize (w.alloc ob) = wa at hO hWa hlt ⊢
  subst eob; have HO := hid hO; have HWa := hid hWa; have HA := hid (hW.next hWa); obtain ⟨k0, k1, k2, k3, k4, k5, k6, k7, k8, k9, k10⟩ := cells11 hO; clear hO hWa
  go_upto_region 4 with (first | (go_at_call 5; (with_reducible refine (c0 _ (by omega) HA.out).mono ?_); rintro e w2 ⟨rfl, hb2⟩))
  have HA2 := hid (HA.out.next hb2)
  have hO2 := (hb2.block w.heap.size (by omega)).trans HO.out
  have HW2 := hid (below_tr HWa.out hb2); have hs2 := hb2.size; clear k0 k1 k2 k3 k4 k5 k6 k7 k8 k9 k10 c0 hb2; obtain ⟨k0, _, _, _, _, _, _, _, k8, k9, _⟩ := cells11 hO2; have HO2 := hid hO2; clear hO2
  go_upto_region 24 with fail
  go_region_held3 (fun w' => w'.cell? ⟨w.heap.size, 8, none⟩ = some (.string tx) ∧ w'.cell? ⟨w.heap.size, 9, none⟩ = some (.string ty)) (first | (simp [k8, k9]; done) | (simp [s8, s9]; done) | (simp [r8, r9]; done)) (first | (go_at_call 17; go_must (with_reducible refine (c2 _ (HA2.out.next (by first | exact (Below.refl _ _).drew | exact Below.refl _ _))).mono ?_); rintro e w3 ⟨⟨px, rfl, hpx⟩, hb3⟩; have hb3' : Below w2.heap.size w2 w3 := ⟨hb3.os, hb3.tape, hb3.output, hb3.size, hb3.block⟩; have hO3 := (hb3'.block w.heap.size (by omega)).trans HO2.out; have s8 : w3.cell? ⟨w.heap.size, 8, none⟩ = some (.string tx) := cell_of_row w3 _ 8 _ _ _ hO3; have s9 : w3.cell? ⟨w.heap.size, 9, none⟩ = some (.string ty) := cell_of_row w3 _ 9 _ _ _ hO3) | (go_at_call 16; go_must (with_reducible refine (c3 _ _ hpx).mono ?_); rintro e w' ⟨⟨qx, rfl, hqx⟩, hw⟩; rw [hw]; clear hw w') | (go_at_call 15; go_must (with_reducible refine (c4 _ _ hqx).mono ?_); rintro e w4 ⟨rfl, hb4⟩; have hb4' : Below w2.heap.size w2 w4 := below_tr hb3' ⟨hb4.os, hb4.tape, hb4.output, hb4.size, hb4.block⟩; have hO4 := (hb4'.block w.heap.size (by omega)).trans HO2.out; have r8 : w4.cell? ⟨w.heap.size, 8, none⟩ = some (.string tx) := cell_of_row w4 _ 8 _ _ _ hO4; have r9 : w4.cell? ⟨w.heap.size, 9, none⟩ = some (.string ty) := cell_of_row w4 _ 9 _ _ _ hO4))
  all_goals (have HB3 := hid hb4'; clear s8 k8 r8 s9 k9 r9 hb3 hb3' hb4 hb4' hO3 hO4)
  all_goals go_wp2
  all_goals go_ret
  all_goals exact ⟨rfl, WOut.same HWW.out (below_tr HW2.out HB3.out)⟩
theorem step_receive (G base : Nat) (A B : ByteArray) (v : Value) (L : List ByteArray) (kd who nn dr o0 o1 o2 o3 : Int) (tx ty : ByteArray) (cut : Bool) (w : World) (hW : WAt G base A B v L w) (hGb : G < base) (hbase : base ≤ w.heap.size) (hLb : (L.length + 1) * 16 ≤ 140737488355328) (hn : (Lit.int .i64 nn).wf = true) (hdr : (Lit.int .i64 dr).wf = true) (hx : tx.size ≤ maxLen) (hy : ty.size ≤ maxLen) (hc0 : (Lit.int .i64 o0).wf = true) (hc1 : (Lit.int .i64 o1).wf = true) (hc2 : (Lit.int .i64 o2).wf = true) (hc3 : (Lit.int .i64 o3).wf = true) (h1 : kd ≠ 1) (h2 : kd ≠ 2) (h3 : kd ≠ 3) (h8 : kd ≠ 8) (hk : kd = 6) :
    Calls Tryz.prog 4 #[.pointer (some ⟨G, 0, none⟩), .agg #[.int .i64 kd, .int .i64 who, .int .i64 nn, .int .i64 dr, .int .i64 o0, .int .i64 o1, .int .i64 o2, .int .i64 o3, .string tx, .string ty, .bool cut]] w fun e w' => e = .returned (.bool true) ∧ WOut G base v L w w' := by
  have hL2 : L.length ≤ maxLen := by unfold maxLen; omega
  have hGlt := hW.lt; have HWW := hid hW
  have hro : ∀ k, v.ownBlock = some k → k < w.heap.size := fun k q => (hW.row.lt k q).2
  have HRO := hid hro
  have c0 := fun (w0 : World) (hb : w.heap.size ≤ w0.heap.size) (hA : WAt G base A B v L w0) => given_none G base A B v L kd who nn dr o0 o1 o2 o3 tx ty cut w0 hA hGb (by omega) hLb hn hdr hx hy h1 h2 h3 h8
  have c2 := fun w hA => wLetter_any G base A B v L nn w (wf_i64 hn) (WAt.blk hA) (WAt.row hA) hL2 (WAt.txt hA)
  have c3 := fun x w0 hA hz => takes_any G base A B v L kd who nn dr o0 o1 o2 o3 tx ty cut x w0 hA hGb hn hdr hx hy hz
  have n4 : (kd == 4) = false := by rw [beq_eq_false_iff_ne]; omega
  have n10 : (kd == 10) = false := by rw [beq_eq_false_iff_ne]; omega
  have n5 : (kd == 5) = false := by rw [beq_eq_false_iff_ne]; omega
  have nk : (kd == 6) = true := by rw [beq_iff_eq]; exact hk
  clear hk; clear h1 h2 h3 h8 hro
  go_enter Tryz.func4, Tryz.ntmps4
  go_upto_region 1 with fail
  obtain ⟨ob, eob⟩ : ∃ ob, ob = Obj.cells #[.int .i64 kd, .int .i64 who, .int .i64 nn, .int .i64 dr, .int .i64 o0, .int .i64 o1, .int .i64 o2, .int .i64 o3, .string tx, .string ty, .bool cut] 31 := ⟨_, rfl⟩
  rw [← eob]; have hO := heap_alloc_new w ob; have hWa : Below w.heap.size w (w.alloc ob) := (Below.refl _ _).alloc (Nat.le_refl _) _
  have hlt : w.heap.size < (w.alloc ob).heap.size := by simp
  generalize (w.alloc ob) = wa at hO hWa hlt ⊢
  subst eob; have HO := hid hO; have HWa := hid hWa; have HA := hid (hW.next hWa); obtain ⟨k0, k1, k2, k3, k4, k5, k6, k7, k8, k9, k10⟩ := cells11 hO; clear hO hWa
  go_upto_region 4 with (first | (go_at_call 5; (with_reducible refine (c0 _ (by omega) HA.out).mono ?_); rintro e w2 ⟨rfl, hb2⟩))
  have HA2 := hid (HA.out.next hb2)
  have hO2 := (hb2.block w.heap.size (by omega)).trans HO.out
  have HW2 := hid (below_tr HWa.out hb2); have hs2 := hb2.size; clear k0 k1 k2 k3 k4 k5 k6 k7 k8 k9 k10 c0 hb2; obtain ⟨k0, k1, k2, k3, k4, k5, k6, k7, k8, k9, k10⟩ := cells11 hO2; have HO2 := hid hO2; clear hO2
  go_upto_region 12 with fail
  go_region_held3 (fun w' => w'.cell? ⟨w.heap.size, 0, none⟩ = some (.int .i64 kd) ∧ w'.cell? ⟨w.heap.size, 1, none⟩ = some (.int .i64 who) ∧ w'.cell? ⟨w.heap.size, 2, none⟩ = some (.int .i64 nn) ∧ w'.cell? ⟨w.heap.size, 3, none⟩ = some (.int .i64 dr) ∧ w'.cell? ⟨w.heap.size, 4, none⟩ = some (.int .i64 o0) ∧ w'.cell? ⟨w.heap.size, 5, none⟩ = some (.int .i64 o1) ∧ w'.cell? ⟨w.heap.size, 6, none⟩ = some (.int .i64 o2) ∧ w'.cell? ⟨w.heap.size, 7, none⟩ = some (.int .i64 o3) ∧ w'.cell? ⟨w.heap.size, 8, none⟩ = some (.string tx) ∧ w'.cell? ⟨w.heap.size, 9, none⟩ = some (.string ty) ∧ w'.cell? ⟨w.heap.size, 10, none⟩ = some (.bool cut)) (first | (simp [k0, k1, k2, k3, k4, k5, k6, k7, k8, k9, k10]; done) | (simp [s0, s1, s2, s3, s4, s5, s6, s7, s8, s9, s10]; done) | (simp [r0, r1, r2, r3, r4, r5, r6, r7, r8, r9, r10]; done)) (first | (go_at_call 9; go_must (with_reducible refine (c2 _ (HA2.out.next (by first | exact (Below.refl _ _).drew | exact Below.refl _ _))).mono ?_); rintro e w3 ⟨⟨px, rfl, hpx⟩, hb3⟩; have hb3' : Below w2.heap.size w2 w3 := ⟨hb3.os, hb3.tape, hb3.output, hb3.size, hb3.block⟩; have hO3 := (hb3'.block w.heap.size (by omega)).trans HO2.out; obtain ⟨s0, s1, s2, s3, s4, s5, s6, s7, s8, s9, _⟩ := cells11 hO3; have s10 : w3.cell? ⟨w.heap.size, 10, none⟩ = some (.bool cut) := cell_of_row w3 _ 10 _ _ _ hO3) | (go_at_call 8; go_must (with_reducible refine (c3 _ _ (HA2.out.next hb3') hpx).mono ?_); rintro e w4 ⟨rfl, ho4⟩; have hO4 := (ho4.2.block w.heap.size (by have := hb3'.size; omega) (fun q => by rcases q with q | q; omega; (have := HRO.out _ q; omega))).trans hO3; have r0 : w4.cell? ⟨w.heap.size, 0, none⟩ = some (.int .i64 kd) := cell_of_row w4 _ 0 _ _ _ hO4; obtain ⟨_, r1, r2, r3, r4, r5, r6, r7, r8, r9, _⟩ := cells11 hO4; have r10 : w4.cell? ⟨w.heap.size, 10, none⟩ = some (.bool cut) := cell_of_row w4 _ 10 _ _ _ hO4))
  all_goals (have HB3 := hid hb3'; have HO4 := hid ho4; clear s0 k0 r0 s1 k1 r1 s2 k2 r2 s3 k3 r3 s4 k4 r4 s5 k5 r5 s6 k6 r6 s7 k7 r7 s8 k8 r8 s9 k9 r9 s10 k10 r10 hb3 hb3' ho4 hO3 hO4)
  all_goals go_wp2
  all_goals go_ret
  all_goals exact ⟨rfl, WOut.after (below_tr HW2.out HB3.out) HO4.out⟩
theorem step_given (G base : Nat) (A B : ByteArray) (v : Value) (L : List ByteArray) (kd who nn dr o0 o1 o2 o3 : Int) (tx ty : ByteArray) (cut : Bool) (w : World) (hW : WAt G base A B v L w) (hGb : G < base) (hbase : base ≤ w.heap.size) (hLb : (L.length + 1) * 16 ≤ 140737488355328) (hn : (Lit.int .i64 nn).wf = true) (hdr : (Lit.int .i64 dr).wf = true) (hx : tx.size ≤ maxLen) (hy : ty.size ≤ maxLen) (hc0 : (Lit.int .i64 o0).wf = true) (hc1 : (Lit.int .i64 o1).wf = true) (hc2 : (Lit.int .i64 o2).wf = true) (hc3 : (Lit.int .i64 o3).wf = true) (h : givenB kd = true) :
    Calls Tryz.prog 4 #[.pointer (some ⟨G, 0, none⟩), .agg #[.int .i64 kd, .int .i64 who, .int .i64 nn, .int .i64 dr, .int .i64 o0, .int .i64 o1, .int .i64 o2, .int .i64 o3, .string tx, .string ty, .bool cut]] w fun e w' => e = .returned (.bool true) ∧ WOut G base v L w w' := by
  have hGlt := hW.lt; have HWW := hid hW
  have c0 := fun (w0 : World) (hb : w.heap.size ≤ w0.heap.size) (hA : WAt G base A B v L w0) => wGiven_any G base A B v L kd who nn dr o0 o1 o2 o3 tx ty cut w0 hA hGb (by omega) hLb hn hdr hx hy h
  go_enter Tryz.func4, Tryz.ntmps4
  go_upto_region 1 with fail
  obtain ⟨ob, eob⟩ : ∃ ob, ob = Obj.cells #[.int .i64 kd, .int .i64 who, .int .i64 nn, .int .i64 dr, .int .i64 o0, .int .i64 o1, .int .i64 o2, .int .i64 o3, .string tx, .string ty, .bool cut] 31 := ⟨_, rfl⟩
  rw [← eob]; have hO := heap_alloc_new w ob; have hWa : Below w.heap.size w (w.alloc ob) := (Below.refl _ _).alloc (Nat.le_refl _) _
  have hlt : w.heap.size < (w.alloc ob).heap.size := by simp
  generalize (w.alloc ob) = wa at hO hWa hlt ⊢
  subst eob; have HO := hid hO; have HWa := hid hWa; have HA := hid (hW.next hWa); obtain ⟨k0, k1, k2, k3, k4, k5, k6, k7, k8, k9, k10⟩ := cells11 hO; clear hO hWa
  go_wp2_with (first | (go_at_call 5; (with_reducible refine (c0 _ (by omega) HA.out).mono ?_); rintro e w2 ⟨rfl, ho2⟩; have HO2 := hid ho2; clear ho2))
  go_ret; exact ⟨rfl, WOut.after HWa.out HO2.out⟩
theorem wStep_any (G base : Nat) (A B : ByteArray) (v : Value) (L : List ByteArray) (kd who nn dr o0 o1 o2 o3 : Int) (tx ty : ByteArray) (cut : Bool) (w : World) (hW : WAt G base A B v L w) (hGb : G < base) (hbase : base ≤ w.heap.size) (hLb : (L.length + 1) * 16 ≤ 140737488355328) (hn : (Lit.int .i64 nn).wf = true) (hdr : (Lit.int .i64 dr).wf = true) (hx : tx.size ≤ maxLen) (hy : ty.size ≤ maxLen) (hc0 : (Lit.int .i64 o0).wf = true) (hc1 : (Lit.int .i64 o1).wf = true) (hc2 : (Lit.int .i64 o2).wf = true) (hc3 : (Lit.int .i64 o3).wf = true)  :
    Calls Tryz.prog 4 #[.pointer (some ⟨G, 0, none⟩), .agg #[.int .i64 kd, .int .i64 who, .int .i64 nn, .int .i64 dr, .int .i64 o0, .int .i64 o1, .int .i64 o2, .int .i64 o3, .string tx, .string ty, .bool cut]] w fun e w' => e = .returned (.bool true) ∧ WOut G base v L w w' := by
  cases h : givenB kd with
  | true => exact step_given G base A B v L kd who nn dr o0 o1 o2 o3 tx ty cut w hW hGb hbase hLb hn hdr hx hy hc0 hc1 hc2 hc3 h
  | false =>
    rw [givenB, decide_eq_false_iff_not] at h
    have h1 : kd ≠ 1 := fun e => h (.inl e)
    have h2 : kd ≠ 2 := fun e => h (.inr (.inl e))
    have h3 : kd ≠ 3 := fun e => h (.inr (.inr (.inl e)))
    have h8 : kd ≠ 8 := fun e => h (.inr (.inr (.inr e)))
    by_cases m4 : kd = 4
    · exact step_create G base A B v L kd who nn dr o0 o1 o2 o3 tx ty cut w hW hGb hbase hLb hn hdr hx hy hc0 hc1 hc2 hc3 h1 h2 h3 h8 m4
    by_cases m10 : kd = 10
    · exact step_recover G base A B v L kd who nn dr o0 o1 o2 o3 tx ty cut w hW hGb hbase hLb hn hdr hx hy hc0 hc1 hc2 hc3 h1 h2 h3 h8 m10
    by_cases m5 : kd = 5
    · exact step_send G base A B v L kd who nn dr o0 o1 o2 o3 tx ty cut w hW hGb hbase hLb hn hdr hx hy hc0 hc1 hc2 hc3 h1 h2 h3 h8 m5
    by_cases m6 : kd = 6
    · exact step_receive G base A B v L kd who nn dr o0 o1 o2 o3 tx ty cut w hW hGb hbase hLb hn hdr hx hy hc0 hc1 hc2 hc3 h1 h2 h3 h8 m6
    by_cases m7 : kd = 7
    · exact step_raw G base A B v L kd who nn dr o0 o1 o2 o3 tx ty cut w hW hGb hbase hLb hn hdr hx hy hc0 hc1 hc2 hc3 h1 h2 h3 h8 m7
    by_cases m9 : kd = 9
    · exact step_look G base A B v L kd who nn dr o0 o1 o2 o3 tx ty cut w hW hGb hbase hLb hn hdr hx hy hc0 hc1 hc2 hc3 h1 h2 h3 h8 m9
    by_cases m11 : kd = 11
    · exact step_plan G base A B v L kd who nn dr o0 o1 o2 o3 tx ty cut w hW hGb hbase hLb hn hdr hx hy hc0 hc1 hc2 hc3 h1 h2 h3 h8 m11
    by_cases m12 : kd = 12
    · exact step_mix G base A B v L kd who nn dr o0 o1 o2 o3 tx ty cut w hW hGb hbase hLb hn hdr hx hy hc0 hc1 hc2 hc3 h1 h2 h3 h8 m12
    by_cases m13 : kd = 13
    · exact step_power G base A B v L kd who nn dr o0 o1 o2 o3 tx ty cut w hW hGb hbase hLb hn hdr hx hy hc0 hc1 hc2 hc3 h1 h2 h3 h8 m13
    by_cases m14 : kd = 14
    · exact step_seal G base A B v L kd who nn dr o0 o1 o2 o3 tx ty cut w hW hGb hbase hLb hn hdr hx hy hc0 hc1 hc2 hc3 h1 h2 h3 h8 m14
    exact step_none G base A B v L kd who nn dr o0 o1 o2 o3 tx ty cut w hW hGb hbase hLb hn hdr hx hy hc0 hc1 hc2 hc3 h1 h2 h3 h8 m4 m10 m5 m6 m7 m9 m11 m12 m13 m14
structure OpM where
  kd : Int
  who : Int
  nn : Int
  dr : Int
  o0 : Int
  o1 : Int
  o2 : Int
  o3 : Int
  tx : ByteArray
  ty : ByteArray
  cut : Bool
def opZ : OpM := ⟨0, 0, 0, 0, 0, 0, 0, 0, ⟨#[]⟩, ⟨#[]⟩, false⟩
def opC (o : OpM) : List Value := [.int .i64 o.kd, .int .i64 o.who, .int .i64 o.nn, .int .i64 o.dr, .int .i64 o.o0, .int .i64 o.o1, .int .i64 o.o2, .int .i64 o.o3, .string o.tx, .string o.ty, .bool o.cut]
structure OpOk (o : OpM) : Prop where
  nn : (Lit.int .i64 o.nn).wf = true
  dr : (Lit.int .i64 o.dr).wf = true
  o0 : (Lit.int .i64 o.o0).wf = true
  o1 : (Lit.int .i64 o.o1).wf = true
  o2 : (Lit.int .i64 o.o2).wf = true
  o3 : (Lit.int .i64 o.o3).wf = true
  tx : o.tx.size ≤ maxLen
  ty : o.ty.size ≤ maxLen
def OpsAt (w : World) (v : Value) (l : List OpM) : Prop := (l = [] ∧ ∃ a c, v = .slice a 0 c) ∨ ∃ b off cap, v = .slice (some ⟨b, off, none⟩) l.length cap ∧ b < w.heap.size ∧ ∀ i, i < l.length → ∀ j, j < 11 → w.cell? ⟨b, off + i * 11 + j, none⟩ = (opC (l.getD i opZ))[j]?
theorem OpsAt.form {w : World} {v : Value} {l : List OpM} (h : OpsAt w v l) : ∃ a c, v = .slice a l.length c := by
  rcases h with ⟨h1, a, c, h2⟩ | ⟨b, off, cap, h1, _⟩
  · exact ⟨a, c, by rw [h1, h2]; rfl⟩
  · exact ⟨_, _, h1⟩
theorem OpsAt.only {S : Nat → Prop} {w w' : World} {v : Value} {l : List OpM} (h : OpsAt w v l) (ho : Only S w w') (hs : l ≠ [] → ∀ k, v.ownBlock = some k → ¬ S k) : OpsAt w' v l := by
  rcases h with h | ⟨b, off, cap, h1, h2, h3⟩
  · exact .inl h
  · by_cases hne : l = []
    · exact .inl ⟨hne, _, _, by rw [h1, hne]; rfl⟩
    have hb := ho.block b h2 (hs hne b (by rw [h1]; rfl))
    refine .inr ⟨b, off, cap, h1, Nat.lt_of_lt_of_le h2 ho.size, fun i hi j hj => ?_⟩
    have := h3 i hi j hj
    unfold World.cell? at this ⊢
    rw [hb]; exact this
theorem all_walk (v : Value) (l : List OpM) (w : World) (hv : OpsAt w v l) (hl : l.length * 16 ≤ 140737488355328) (hok : ∀ o ∈ l, OpOk o) :
    Calls Tryz.prog 3 #[v] w fun e w' => e = .returned (.bool true) ∧ Below w.heap.size w w' := by
  obtain ⟨av, ac, hvf⟩ := hv.form; subst hvf
  have HVB : Hid (l ≠ [] → ∀ q, (Value.slice av l.length ac).ownBlock = some q → q < w.heap.size) := by
    intro hne q hq
    rcases hv with ⟨h1, _⟩ | ⟨b, off, cap, h1, h2, _⟩
    · exact absurd h1 hne
    · rw [h1] at hq
      have : b = q := Option.some.inj hq
      omega
  have HOK := hid hok; clear hok
  go_enter Tryz.func3, Tryz.ntmps3
  go_upto_region 2 with fail
  have hG := heap_alloc_new w (.cells #[.string ⟨#[]⟩, .string ⟨#[]⟩, .slice none 0 0] 26); have hA : Below w.heap.size w (w.alloc (.cells #[.string ⟨#[]⟩, .string ⟨#[]⟩, .slice none 0 0] 26)) := (Below.refl _ _).alloc (Nat.le_refl _) _
  have hGl : w.heap.size < (w.alloc (.cells #[.string ⟨#[]⟩, .string ⟨#[]⟩, .slice none 0 0] 26)).heap.size := by simp
  have hV1 : OpsAt (w.alloc (.cells #[.string ⟨#[]⟩, .string ⟨#[]⟩, .slice none 0 0] 26)) (.slice av l.length ac) l := hv.only (S := fun _ => False) (Only.of_below hA) (fun _ _ _ q => q)
  generalize (w.alloc (.cells #[.string ⟨#[]⟩, .string ⟨#[]⟩, .slice none 0 0] 26)) = wa at hG hA hGl hV1 ⊢
  have hW1 : WAt w.heap.size (w.heap.size + 1) ⟨#[]⟩ ⟨#[]⟩ (.slice none 0 0) [] wa := ⟨hG, by decide, by decide, World.ownsRow_nil _ _ _ _, fun x hx => by simp at hx⟩
  have HV1 := hid hV1; have HW1 := hid hW1; have HA := hid hA; clear hG hA hV1 hW1 hv; go_wp2
  go_loopg [4, 5] (l.length + 1) (fun fu c x5 wx => ∃ (j : Nat) (A B : ByteArray) (vv : Value) (L : List ByteArray), c = .int .i64 j ∧ j ≤ l.length ∧ fu + j = l.length + 1 ∧ L.length ≤ j ∧ WAt w.heap.size (w.heap.size + 1) A B vv L wx ∧ OpsAt wx (.slice av l.length ac) l ∧ Below w.heap.size w wx)
  case atStart => exact ⟨0, ⟨#[]⟩, ⟨#[]⟩, _, [], rfl, by omega, by omega, Nat.le_refl _, HW1.out, HV1.out, HA.out⟩
  case round =>
    clear HV1 HW1 HA; obtain ⟨j, A, B, vv, L, rfl, hj, hfu, hLj, hW, hVx, hbx⟩ := hrel; have hsx := hbx.size; have hglt := hW.lt
    by_cases hlt : j < l.length
    · obtain ⟨ob, off, ocap, hov, hobl, hoc⟩ : ∃ ob off ocap, Value.slice av l.length ac = .slice (some ⟨ob, off, none⟩) l.length ocap ∧ ob < wr.heap.size ∧ ∀ q, q < 11 → wr.cell? ⟨ob, off + j * 11 + q, none⟩ = (opC (l.getD j opZ))[q]? := by
        rcases hVx with ⟨q, _⟩ | ⟨ob, off, ocap, q1, q2, q3⟩
        · rw [q] at hlt; simp at hlt
        · exact ⟨ob, off, ocap, q1, q2, q3 j hlt⟩
      injection hov with o1 o2 o3
      subst o1 o3
      have hne : l ≠ [] := fun e => by rw [e] at hlt; simp at hlt
      have hoo := HOK.out (l.getD j opZ) (by rw [List.getD_eq_getElem?_getD, List.getElem?_eq_getElem hlt]; exact List.getElem_mem hlt)
      generalize l.getD j opZ = oo at *
      obtain ⟨kd, who, nn, dr, o0, o1, o2, o3, tx, ty, cut⟩ := oo; have hobG : ob < w.heap.size := HVB.out hne ob rfl
      have k0 : wr.cell? ⟨ob, off + j * 11 + 0, none⟩ = some (.int .i64 kd) := hoc 0 (by omega)
      have k1 : wr.cell? ⟨ob, off + j * 11 + 1, none⟩ = some (.int .i64 who) := hoc 1 (by omega)
      have k2 : wr.cell? ⟨ob, off + j * 11 + 2, none⟩ = some (.int .i64 nn) := hoc 2 (by omega)
      have k3 : wr.cell? ⟨ob, off + j * 11 + 3, none⟩ = some (.int .i64 dr) := hoc 3 (by omega)
      have k4 : wr.cell? ⟨ob, off + j * 11 + 4, none⟩ = some (.int .i64 o0) := hoc 4 (by omega)
      have k5 : wr.cell? ⟨ob, off + j * 11 + 5, none⟩ = some (.int .i64 o1) := hoc 5 (by omega)
      have k6 : wr.cell? ⟨ob, off + j * 11 + 6, none⟩ = some (.int .i64 o2) := hoc 6 (by omega)
      have k7 : wr.cell? ⟨ob, off + j * 11 + 7, none⟩ = some (.int .i64 o3) := hoc 7 (by omega)
      have k8 : wr.cell? ⟨ob, off + j * 11 + 8, none⟩ = some (.string tx) := hoc 8 (by omega)
      have k9 : wr.cell? ⟨ob, off + j * 11 + 9, none⟩ = some (.string ty) := hoc 9 (by omega)
      have k10 : wr.cell? ⟨ob, off + j * 11 + 10, none⟩ = some (.bool cut) := hoc 10 (by omega)
      have k00 : wr.cell? ⟨ob, off + j * 11, none⟩ = some (.int .i64 kd) := hoc 0 (by omega)
      have c1 := wStep_any w.heap.size (w.heap.size + 1) A B vv L kd who nn dr o0 o1 o2 o3 tx ty cut wr hW (by omega) (by omega) (by omega) hoo.nn hoo.dr hoo.tx hoo.ty hoo.o0 hoo.o1 hoo.o2 hoo.o3
      have hjl : (j : Int) < (l.length : Int) := by omega
      have hj0 : (0 : Int) ≤ (j : Int) := by omega
      have HVX := hid hVx; have HBX := hid hbx
      have HRO : Hid (∀ k, vv.ownBlock = some k → w.heap.size + 1 ≤ k) := fun k q => (hW.row.lt k q).1
      clear hoc hVx hbx hW hoo
      go_wp2_with (first | (go_at_call 4; (with_reducible refine c1.mono ?_); rintro e w2 ⟨rfl, ho2⟩; have HO2 := hid ho2; clear ho2))
      go_roundg (gk - 1)
      case measure => omega
      case rel =>
        obtain ⟨⟨A', B', v', L', hW', hL'⟩, hN⟩ := HO2.out
        have hS : ∀ k, (k = w.heap.size ∨ vv.ownBlock = some k) → w.heap.size ≤ k := by
          rintro k (q | q)
          · omega
          · have := HRO.out k q; omega
        refine ⟨j + 1, A', B', v', L', by simp, by omega, by omega, by omega, hW', HVX.out.only hN (fun hne q hq h => ?_), HBX.out.trans (hN.below hsx hS)⟩
        have := HVB.out hne q hq
        have := hS q h
        omega
    · obtain rfl : j = l.length := by omega
      have HBX := hid hbx; clear hW hVx hbx; go_wp2; go_ret; exact ⟨rfl, HBX.out⟩
open Go.ChangeShapes Go.WideShapes Go.ChangeAt Go.RowKit Go.Deep
theorem Tryz.cellsOp : Tryz.prog.cellsOf 31 = 11 := by kernel_rfl
theorem Tryz.cellsIntO : Tryz.prog.cellsOf 3 = 1 := by kernel_rfl
theorem Tryz.cellsStrO : Tryz.prog.cellsOf 9 = 1 := by kernel_rfl
theorem Tryz.cellsBoolO : Tryz.prog.cellsOf 4 = 1 := by kernel_rfl
theorem Tryz.cellsCfg : Tryz.prog.cellsOf 29 = 4 := by kernel_rfl
theorem eleven_of {α : Type} (l : List α) (h : l.length = 11) : ∃ c0 c1 c2 c3 c4 c5 c6 c7 c8 c9 c10, l = [c0, c1, c2, c3, c4, c5, c6, c7, c8, c9, c10] := by
  match l, h with
  | [c0, c1, c2, c3, c4, c5, c6, c7, c8, c9, c10], _ => exact ⟨c0, c1, c2, c3, c4, c5, c6, c7, c8, c9, c10, rfl⟩
instance : Inhabited OpM := ⟨opZ⟩
theorem some_of {α : Type} {o : Option α} {l : List α} {i : Nat} (h : o = l[i]?) (hi : i < l.length) : ∃ x, o = some x := ⟨l[i], by rw [h, List.getElem?_eq_getElem hi]⟩
theorem cfg_cells {H : Type} {enc : TypeId × Value → H} {W : World} {sp : Nat → Bool} {held : Bool} {n : Nat} {c0 c1 c2 c3 : Value} {x : DataW H × List MemPlace} (h : DataW.trod enc Tryz.prog W 0 sp held n 29 [c0, c1, c2, c3] = some x) :
    ∃ o0 o1 o2 o3 : Int, c0 = .int .i64 o0 ∧ c1 = .int .i64 o1 ∧ c2 = .int .i64 o2 ∧ c3 = .int .i64 o3 ∧ (Lit.int .i64 o0).wf = true ∧ (Lit.int .i64 o1).wf = true ∧ (Lit.int .i64 o2).wf = true ∧ (Lit.int .i64 o3).wf = true := by
  obtain ⟨xs, m, rfl, hx, hl, hlen, hg⟩ := DataW.trod_struct Tryz.underlying29 h; have hlen4 : xs.length = 4 := hlen
  obtain ⟨y0, g0⟩ := some_of (hg 0 _ rfl) (by omega)
  obtain ⟨y1, g1⟩ := some_of (hg 1 _ rfl) (by omega)
  obtain ⟨y2, g2⟩ := some_of (hg 2 _ rfl) (by omega)
  obtain ⟨y3, g3⟩ := some_of (hg 3 _ rfl) (by omega)
  obtain ⟨o0, e0, _, w0⟩ := DataW.trod_int Tryz.underlying3 g0; obtain ⟨o1, e1, _, w1⟩ := DataW.trod_int Tryz.underlying3 g1; obtain ⟨o2, e2, _, w2⟩ := DataW.trod_int Tryz.underlying3 g2; obtain ⟨o3, e3, _, w3⟩ := DataW.trod_int Tryz.underlying3 g3
  refine ⟨o0, o1, o2, o3, ?_, ?_, ?_, ?_, w0, w1, w2, w3⟩
  · simpa [Tryz.cellsIntO] using e0
  · simpa [Tryz.cellsIntO] using e1
  · simpa [Tryz.cellsIntO] using e2
  · simpa [Tryz.cellsIntO] using e3
theorem op_cells {H : Type} {enc : TypeId × Value → H} {W : World} {sp : Nat → Bool} {held : Bool} {n : Nat} {cs : List Value} {x : DataW H × List MemPlace} (h : DataW.trod enc Tryz.prog W 0 sp held n 31 cs = some x) :
    ∃ o : OpM, cs = opC o ∧ OpOk o := by
  obtain ⟨xs, m, rfl, hx, hl, hlen, hg⟩ := DataW.trod_struct Tryz.underlying31 h
  rw [Tryz.cellsOp] at hl
  obtain ⟨c0, c1, c2, c3, c4, c5, c6, c7, c8, c9, c10, rfl⟩ := eleven_of cs hl; have hlen8 : xs.length = 8 := hlen
  obtain ⟨y0, g0⟩ := some_of (hg 0 _ rfl) (by omega)
  obtain ⟨y1, g1⟩ := some_of (hg 1 _ rfl) (by omega)
  obtain ⟨y2, g2⟩ := some_of (hg 2 _ rfl) (by omega)
  obtain ⟨y3, g3⟩ := some_of (hg 3 _ rfl) (by omega)
  obtain ⟨y4, g4⟩ := some_of (hg 4 _ rfl) (by omega)
  obtain ⟨y5, g5⟩ := some_of (hg 5 _ rfl) (by omega)
  obtain ⟨y6, g6⟩ := some_of (hg 6 _ rfl) (by omega)
  obtain ⟨y7, g7⟩ := some_of (hg 7 _ rfl) (by omega)
  obtain ⟨kd, e0, _, w0⟩ := DataW.trod_int Tryz.underlying3 g0; obtain ⟨who, e1, _, w1⟩ := DataW.trod_int Tryz.underlying3 g1; obtain ⟨nn, e2, _, w2⟩ := DataW.trod_int Tryz.underlying3 g2; obtain ⟨dr, e3, _, w3⟩ := DataW.trod_int Tryz.underlying3 g3; obtain ⟨tx, e5, _, w5⟩ := DataW.trod_string Tryz.underlying9 g5; obtain ⟨ty, e6, _, w6⟩ := DataW.trod_string Tryz.underlying9 g6; obtain ⟨cut, e7, _⟩ := DataW.trod_bool Tryz.underlying4 g7
  have g4' : DataW.trod enc Tryz.prog W 0 sp held m 29 [c4, c5, c6, c7] = some y4 := by simpa [Tryz.cellsCfg] using g4
  obtain ⟨o0, o1, o2, o3, q0, q1, q2, q3, z0, z1, z2, z3⟩ := cfg_cells g4'
  have e0' : c0 = .int .i64 kd := by simpa [Tryz.cellsIntO] using e0
  have e1' : c1 = .int .i64 who := by simpa [Tryz.cellsIntO] using e1
  have e2' : c2 = .int .i64 nn := by simpa [Tryz.cellsIntO] using e2
  have e3' : c3 = .int .i64 dr := by simpa [Tryz.cellsIntO] using e3
  have e5' : c8 = .string tx := by simpa [Tryz.cellsStrO] using e5
  have e6' : c9 = .string ty := by simpa [Tryz.cellsStrO] using e6
  have e7' : c10 = .bool cut := by simpa [Tryz.cellsBoolO] using e7
  exact ⟨⟨kd, who, nn, dr, o0, o1, o2, o3, tx, ty, cut⟩, by rw [e0', e1', e2', e3', q0, q1, q2, q3, e5', e6', e7']; rfl, ⟨w2, w3, z0, z1, z2, z3, w5, w6⟩⟩
theorem ops_arg {H : Type} {enc : TypeId × Value → H} {W : World} {base : Nat} {v : Value} {d : DataW H} {p : List MemPlace} (hok : Value.okWide Tryz.prog W .any base 22 v) (h : DataW.Trod enc Tryz.prog W 0 (fun _ => true) true 22 v d p) :
    ∃ l : List OpM, OpsAt W v l ∧ (∀ o ∈ l, OpOk o) ∧ ((d = .nil ∧ l = []) ∨ ∃ es sp, d = .slice es sp ∧ l.length ≤ es.length + sp.length) := by
  obtain ⟨a0, len, cap, rfl⟩ := okWide_slice Tryz.underlying22 hok; obtain ⟨fuel, hf⟩ := h
  rcases open_slice Tryz.underlying22 hf with ⟨hcs, hx⟩ | ⟨a, len', cap', m, n, D, Pl, hcs, _, hl, hm, hmm, hx, hel⟩
  · simp [Value.cells] at hcs
    obtain ⟨rfl, rfl, rfl⟩ := hcs
    simp only [Prod.mk.injEq] at hx
    exact ⟨[], .inl ⟨rfl, none, 0, rfl⟩, fun x hx => by simp at hx, .inl ⟨hx.1, rfl⟩⟩
  · simp [Value.cells] at hcs
    obtain ⟨rfl, rfl, rfl⟩ := hcs
    simp only [Prod.mk.injEq] at hx
    have hlm : len ≤ m := by rw [hmm]; split <;> omega
    rw [Tryz.cellsOp] at hel
    obtain ⟨f, hf2⟩ := choose_lt (α := OpM) (n := len) (p := fun i o => W.cells? 0 (a.add (i * 11)) 11 = some (opC o) ∧ OpOk o) (fun i hi => by
      obtain ⟨cs', h1, h2⟩ := hel i (by omega)
      obtain ⟨o, ho, hoo⟩ := op_cells h2
      exact ⟨o, by rw [h1, ho], hoo⟩)
    have hlen : ((List.range len).map f).length = len := by simp
    have hgd : ∀ i, i < len → ((List.range len).map f).getD i opZ = f i := fun i hi => by
      rw [List.getD_eq_getElem?_getD, List.getElem?_map, List.getElem?_range hi]; rfl
    refine ⟨(List.range len).map f, ?_, ?_, .inr ⟨_, _, hx.1, ?_⟩⟩
    · by_cases h0 : len = 0
      · subst h0; exact .inl ⟨rfl, _, _, rfl⟩
      · right
        obtain ⟨_, _, hc0⟩ := World.cells?_some (hf2 0 (by omega)).1
        have hcell0 := hc0 0 (by omega)
        obtain ⟨b, off, spot⟩ := a
        have hsp0 : ((⟨b, off, spot⟩ : Addr).add (0 * 11)).add 0 = ⟨b, off, spot⟩ := by simp [Addr.add]
        rw [hsp0] at hcell0
        have hcell1 : W.cell? ⟨b, off, spot⟩ = some (.int .i64 (f 0).kd) := hcell0
        have hspot : spot = none := World.cell?_spot hcell1
        subst hspot
        refine ⟨b, off, cap, by rw [hlen], ?_, fun i hi j hj => ?_⟩
        · rcases Nat.lt_or_ge b W.heap.size with q | q
          · exact q
          · unfold World.cell? at hcell1
            rw [Array.getElem?_eq_none (by exact q)] at hcell1
            simp at hcell1
        · rw [hlen] at hi
          obtain ⟨_, _, hc⟩ := World.cells?_some (hf2 i hi).1
          have := hc j hj
          rw [add_add, add_plain, ← Nat.add_assoc] at this
          rw [hgd i hi, this]
    · intro o ho
      obtain ⟨i, hi, rfl⟩ := List.mem_map.1 ho; exact (hf2 i (List.mem_range.1 hi)).2
    · simp
end Go.Proofs.YtabpkohcimiceabGreat
