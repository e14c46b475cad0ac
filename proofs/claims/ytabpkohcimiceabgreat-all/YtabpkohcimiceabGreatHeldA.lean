import Derived.Test.YtabpkohcimiceabGreatSeen
import Derived.Test.YtabpkohcimiceabGreatBoxL
import Derived.Deep.QuietTactic
import Derived.BigQuiet
namespace Go.Proofs.YtabpkohcimiceabGreat
set_option maxRecDepth 100000
set_option maxHeartbeats 1000000
open Go.RowKit
set_option linter.unusedVariables false
set_option maxHeartbeats 2000000 in
theorem seen_no (t : ByteArray) (c : Nat) (w : World) (ht : 64 ≤ t.size) (ht2 : t.size ≤ 1000) (hc2 : c ≤ 30) (h : ¬ (t[6].toNat = c ∧ t[7].toNat ≤ c)) :
    Calls Tryz.prog 123 #[.string t, .int .i64 c] w fun e w' => e = .returned (.tuple #[.agg zeroCells13, .bool false]) ∧ Below w.heap.size w w' := by
  have b6 := t[6].toNat_lt; have b7 := t[7].toNat_lt
  have n6 : 6 < t.size := by omega
  have n7 : 7 < t.size := by omega
  have s6 : (6 : Int) < (t.size : Int) := by omega
  have s7 : (7 : Int) < (t.size : Int) := by omega
  by_cases h6 : t[6].toNat = c
  · have q6 : (t[6].toNat : Int) = (c : Int) := by omega
    have q7 : (c : Int) < (t[7].toNat : Int) := by
      have : ¬ t[7].toNat ≤ c := fun x => h ⟨h6, x⟩
      omega
    clear h h6
    go_enter Tryz.func123, Tryz.ntmps123
    go_wp2
    (try simp only [Exit.inBlock, Exit.then])
    refine bodyPost_ret (v := .tuple #[.agg zeroCells13, .bool false]) ?_ ?_ ?_
    · rw [results_cell_tmp (fn := Tryz.f123) rfl]; simp [go_sem, zeroCells13]
    · rfl
    · refine ⟨rfl, ?_⟩
      exact ((Below.refl _ _).alloc (Nat.le_refl _) _).alloc (by simp) _
  · have q6 : ¬ (t[6].toNat : Int) = (c : Int) := by omega
    clear h h6
    go_enter Tryz.func123, Tryz.ntmps123
    go_wp2
    (try simp only [Exit.inBlock, Exit.then])
    refine bodyPost_ret (v := .tuple #[.agg zeroCells13, .bool false]) ?_ ?_ ?_
    · rw [results_cell_tmp (fn := Tryz.f123) rfl]; simp [go_sem, zeroCells13]
    · rfl
    · refine ⟨rfl, ?_⟩
      exact ((Below.refl _ _).alloc (Nat.le_refl _) _).alloc (by simp) _
theorem results_cell_tmp2 {fn : Func} {p u u' : Tmp} {ty : TypeId} (h : fn.results = #[.cell p ty, .tmp u, .tmp u']) (tmps : Array Value) (P : Program) (w : World) :
    (results fn tmps).run P w =
      ((asAddr (tmps.getD p undef)).run P w).andThen fun a w₁ => ((loadVar ty a).run P w₁).andThen fun v w₂ => .ok (.tuple #[v, tmps.getD u undef, tmps.getD u' undef]) w₂ := by
  simp only [results, h]
  simp [Sem.run_bind, Result.andThen]
def HeldNo (e : Ending) : Prop := ∃ (s : StM) (a : Option Addr) (n c : Nat) (l : Int), e = .returned (.tuple #[.agg (stCells s (.slice a n c)), .int .i64 l, .bool false])
def zeroS : StM := { role := 0, step := 0, sent := 0, got := 0, prev := 0, skip := 0, cap := 0, root := [], out := [], inn := [], secret := 0, peer := 0, kept := [] }
theorem HeldNo.zero : HeldNo (.returned (.tuple #[.agg zeroCells13, .int .i64 0, .bool false])) := ⟨zeroS, none, 0, 0, 0, rfl⟩
set_option maxHeartbeats 2000000 in
theorem held_early (d : ByteArray) (w : World) (hd : 32 ≤ d.size) (hd2 : d.size ≤ 1280) (h : ¬ (d[4].toNat ≤ 30 ∧ d[5].toNat ≤ 1)) :
    Calls Tryz.prog 75 #[.string d] w fun e w' => HeldNo e ∧ Below w.heap.size w w' := by
  have n4 : 4 < d.size := by omega
  have n5 : 5 < d.size := by omega
  have s4 : (4 : Int) < (d.size : Int) := by omega
  have s5 : (5 : Int) < (d.size : Int) := by omega
  have s32 : ¬ (d.size : Int) < 32 := by omega
  by_cases h4 : d[4].toNat ≤ 30
  · have q4 : ¬ (30 : Int) < (d[4].toNat : Int) := by omega
    have q5 : (1 : Int) < (d[5].toNat : Int) := by
      have : ¬ d[5].toNat ≤ 1 := fun x => h ⟨h4, x⟩
      omega
    clear h h4
    go_enter Tryz.func75, Tryz.ntmps75
    go_wp2
    (try simp only [Exit.inBlock, Exit.then])
    refine bodyPost_ret (v := .tuple #[.agg zeroCells13, .int .i64 0, .bool false]) ?_ ?_ ?_
    · rw [results_cell_tmp2 (fn := Tryz.f75) rfl]; simp [go_sem, zeroCells13]
    · rfl
    · refine ⟨.zero, ?_⟩
      exact ((Below.refl _ _).alloc (Nat.le_refl _) _).alloc (by simp) _
  · have q4 : (30 : Int) < (d[4].toNat : Int) := by omega
    clear h h4
    go_enter Tryz.func75, Tryz.ntmps75
    go_wp2
    (try simp only [Exit.inBlock, Exit.then])
    refine bodyPost_ret (v := .tuple #[.agg zeroCells13, .int .i64 0, .bool false]) ?_ ?_ ?_
    · rw [results_cell_tmp2 (fn := Tryz.f75) rfl]; simp [go_sem, zeroCells13]
    · rfl
    · refine ⟨.zero, ?_⟩
      exact ((Below.refl _ _).alloc (Nat.le_refl _) _).alloc (by simp) _
theorem two_blocks (w w1 : World) (hb1 : Below ((w.alloc (.cells zeroCells13 63)).alloc (.cells zeroCells13 63)).heap.size ((w.alloc (.cells zeroCells13 63)).alloc (.cells zeroCells13 63)) w1) :
    w1.heap[w.heap.size]? = some (.cells zeroCells13 63) ∧ w1.heap[w.heap.size + 1]? = some (.cells zeroCells13 63) ∧ Below w.heap.size w w1 := by
  refine ⟨?_, ?_, ?_⟩
  · refine (hb1.block _ (by simp; omega)).trans ?_
    exact (Below.heap_alloc _ _ _ (by simp)).trans (heap_alloc_new w _)
  · refine (hb1.block _ (by simp)).trans ?_
    have := heap_alloc_new (w.alloc (.cells zeroCells13 63)) (.cells zeroCells13 63)
    have e : (w.alloc (.cells zeroCells13 63)).heap.size = w.heap.size + 1 := by simp
    rw [e] at this
    exact this
  · exact (((Below.refl _ _).alloc (Nat.le_refl _) _).alloc (by simp) _).trans (hb1.mono (by simp; omega))
theorem take_eq (d : ByteArray) (n : Nat) : (d.extract 0 n).data.toList = d.data.toList.take n := by simp [ByteArray.data_extract]
theorem ext_beq (d : ByteArray) (n : Nat) (y : List UInt8) : ((d.extract 0 n).toList == (str y).toList) = decide (d.data.toList.take n = y) := by
  rw [ByteArray.toList_eq, ByteArray.toList_eq, str_toList, take_eq]
  by_cases h : d.data.toList.take n = y
  · rw [decide_eq_true h, h]; simp
  · rw [decide_eq_false h, beq_eq_false_iff_ne]; exact h
end Go.Proofs.YtabpkohcimiceabGreat
namespace Go.Proofs.YtabpkohcimiceabGreat
set_option maxRecDepth 100000
set_option maxHeartbeats 1000000
open Go.RowKit
set_option linter.unusedVariables false
set_option maxHeartbeats 8000000 in
theorem held_len (d : ByteArray) (w : World) (hd : 32 ≤ d.size) (hd2 : d.size ≤ 1280) (h4 : d[4].toNat ≤ 30) (h5 : d[5].toNat ≤ 1) (ht : d.data.toList.take 32 = topL d[4].toNat d[5].toNat) (h : ¬ 32 + 2 * (halfN d[4].toNat * 32) ≤ d.size) :
    Calls Tryz.prog 75 #[.string d] w fun e w' => HeldNo e ∧ Below w.heap.size w w' := by
  have n4 : 4 < d.size := by omega
  have n5 : 5 < d.size := by omega
  have s4 : (4 : Int) < (d.size : Int) := by omega
  have s5 : (5 : Int) < (d.size : Int) := by omega
  have s32 : ¬ (d.size : Int) < 32 := by omega
  have q4 : ¬ (30 : Int) < (d[4].toNat : Int) := by omega
  have q5 : ¬ (1 : Int) < (d[5].toNat : Int) := by omega
  have b4 := d[4].toNat_lt; have b5 := d[5].toNat_lt
  have c1 := fun w => half_any d[4].toNat w (by omega)
  have c2 := fun w => top_any d[4].toNat d[5].toNat w (by omega) (by omega)
  have hbq := ext_beq d 32 (topL d[4].toNat d[5].toNat)
  have hh := (show halfN d[4].toNat ≤ 11 by unfold halfN; omega)
  rw [decide_eq_true ht] at hbq
  have hl : (d.size : Int) < 32 + 2 * ((halfN d[4].toNat : Int) * 32) := by
    omega
  clear h ht
  generalize str (topL d[4].toNat d[5].toNat) = tp at *
  generalize halfN d[4].toNat = hf at *
  go_enter Tryz.func75, Tryz.ntmps75
  go_upto_region 8 with (first | (go_at_call 95; refine (c1 _).mono ?_; rintro e w' ⟨rfl, hw⟩; rw [hw]; clear hw w') | (go_at_call 122; refine (c2 _).mono ?_; rintro e w1 ⟨rfl, hb1⟩))
  obtain ⟨hA, hB, hb⟩ := two_blocks w w1 hb1; have HB := hid hb
  have fA : ∀ j, w1.frozen? ⟨w.heap.size, j, none⟩ = false := fun j => frozen_of_row w1 _ j _ _ hA
  obtain ⟨a0, a1, a2, a3, a4, a5, a6, a7, a8, a9, a10, a11, a12⟩ := cells13 hA; obtain ⟨b0, b1, b2, b3, b4, b5, b6, b7, b8, b9, b10, b11, b12⟩ := cells13 hB; clear hA hB hb hb1 c1 c2; go_wp2
  (try simp only [Exit.inBlock, Exit.then])
  refine bodyPost_ret (v := .tuple #[.agg zeroCells13, .int .i64 0, .bool false]) ?_ ?_ ?_
  · rw [results_cell_tmp2 (fn := Tryz.f75) rfl]; simp [go_sem, zeroCells13, a0, a1, a2, a3, a4, a5, a6, a7, a8, a9, a10, a11, a12]
  · rfl
  · refine ⟨.zero, ?_⟩
    repeat (refine Below.setCell ?_ (by exact Nat.le_refl _) _)
    exact HB.out
end Go.Proofs.YtabpkohcimiceabGreat
namespace Go.Proofs.YtabpkohcimiceabGreat
set_option maxRecDepth 100000
set_option maxHeartbeats 1000000
open Go.RowKit
set_option linter.unusedVariables false
set_option maxHeartbeats 8000000 in
theorem held_top (d : ByteArray) (w : World) (hd : 32 ≤ d.size) (hd2 : d.size ≤ 1280) (h4 : d[4].toNat ≤ 30) (h5 : d[5].toNat ≤ 1) (ht : ¬ d.data.toList.take 32 = topL d[4].toNat d[5].toNat) :
    Calls Tryz.prog 75 #[.string d] w fun e w' => HeldNo e ∧ Below w.heap.size w w' := by
  have n4 : 4 < d.size := by omega
  have n5 : 5 < d.size := by omega
  have s4 : (4 : Int) < (d.size : Int) := by omega
  have s5 : (5 : Int) < (d.size : Int) := by omega
  have s32 : ¬ (d.size : Int) < 32 := by omega
  have q4 : ¬ (30 : Int) < (d[4].toNat : Int) := by omega
  have q5 : ¬ (1 : Int) < (d[5].toNat : Int) := by omega
  have b4 := d[4].toNat_lt; have b5 := d[5].toNat_lt
  have c1 := fun w => half_any d[4].toNat w (by omega)
  have c2 := fun w => top_any d[4].toNat d[5].toNat w (by omega) (by omega)
  have hbq := ext_beq d 32 (topL d[4].toNat d[5].toNat)
  have hh := (show halfN d[4].toNat ≤ 11 by unfold halfN; omega)
  rw [decide_eq_false ht] at hbq
  clear ht
  generalize str (topL d[4].toNat d[5].toNat) = tp at *
  generalize halfN d[4].toNat = hf at *
  go_enter Tryz.func75, Tryz.ntmps75
  go_upto_region 8 with (first | (go_at_call 95; refine (c1 _).mono ?_; rintro e w' ⟨rfl, hw⟩; rw [hw]; clear hw w') | (go_at_call 122; refine (c2 _).mono ?_; rintro e w1 ⟨rfl, hb1⟩))
  obtain ⟨hA, hB, hb⟩ := two_blocks w w1 hb1; have HB := hid hb
  have fA : ∀ j, w1.frozen? ⟨w.heap.size, j, none⟩ = false := fun j => frozen_of_row w1 _ j _ _ hA
  obtain ⟨a0, a1, a2, a3, a4, a5, a6, a7, a8, a9, a10, a11, a12⟩ := cells13 hA; obtain ⟨b0, b1, b2, b3, b4, b5, b6, b7, b8, b9, b10, b11, b12⟩ := cells13 hB; clear hA hB hb hb1 c1 c2; go_wp2
  (try simp only [Exit.inBlock, Exit.then])
  refine bodyPost_ret (v := .tuple #[.agg zeroCells13, .int .i64 0, .bool false]) ?_ ?_ ?_
  · rw [results_cell_tmp2 (fn := Tryz.f75) rfl]; simp [go_sem, zeroCells13, a0, a1, a2, a3, a4, a5, a6, a7, a8, a9, a10, a11, a12]
  · rfl
  · refine ⟨.zero, ?_⟩
    repeat (refine Below.setCell ?_ (by exact Nat.le_refl _) _)
    exact HB.out
end Go.Proofs.YtabpkohcimiceabGreat
namespace Go.Proofs.YtabpkohcimiceabGreat
set_option maxRecDepth 100000
set_option maxHeartbeats 1000000
open Go.RowKit
set_option linter.unusedVariables false
set_option maxHeartbeats 2000000 in
theorem held_unseen (d : ByteArray) (w : World) (hd : 32 ≤ d.size) (hd2 : d.size ≤ 1280) (h4 : d[4].toNat ≤ 30) (h5 : d[5].toNat ≤ 1) (ht : d.data.toList.take 32 = topL d[4].toNat d[5].toNat) (hl : 32 + 2 * (halfN d[4].toNat * 32) ≤ d.size) (M : Nat) (hM : M = d[5].toNat * (halfN d[4].toNat * 32))
    (c3 : ∀ w, Calls Tryz.prog 123 #[.string (d.extract (32 + M) (32 + M + halfN d[4].toNat * 32)), .int .i64 (d[4].toNat : Int)] w fun e w' => e = .returned (.tuple #[.agg zeroCells13, .bool false]) ∧ Below w.heap.size w w') :
    Calls Tryz.prog 75 #[.string d] w fun e w' => HeldNo e ∧ Below w.heap.size w w' := by
  have n4 : 4 < d.size := by omega
  have n5 : 5 < d.size := by omega
  have s4 : (4 : Int) < (d.size : Int) := by omega
  have s5 : (5 : Int) < (d.size : Int) := by omega
  have s32 : ¬ (d.size : Int) < 32 := by omega
  have q4 : ¬ (30 : Int) < (d[4].toNat : Int) := by omega
  have q5 : ¬ (1 : Int) < (d[5].toNat : Int) := by omega
  have b4 := d[4].toNat_lt; have b5 := d[5].toNat_lt
  have c1 := fun w => half_any d[4].toNat w (by omega)
  have c2 := fun w => top_any d[4].toNat d[5].toNat w (by omega) (by omega)
  have hbq := ext_beq d 32 (topL d[4].toNat d[5].toNat); obtain ⟨hh1, hh2, hh3⟩ := halfN_le d[4].toNat h4
  rw [decide_eq_true ht] at hbq
  have hlI : ¬ (d.size : Int) < 32 + 2 * ((halfN d[4].toNat : Int) * 32) := by omega
  generalize str (topL d[4].toNat d[5].toNat) = tp at *
  have hMI : (d[5].toNat : Int) * ((halfN d[4].toNat : Int) * 32) = (M : Int) := by
    rw [hM]; simp
  have hM2 : 32 + M + halfN d[4].toNat * 32 ≤ d.size := by
    rw [hM]; have : d[5].toNat = 0 ∨ d[5].toNat = 1 := by omega
    rcases this with e | e <;> rw [e] <;> omega
  have wm : wrap64 ((d[5].toNat : Int) * ((halfN d[4].toNat : Int) * 32)) = (M : Int) := by
    rw [hMI]; unfold wrap64; omega
  clear ht hM hMI
  generalize halfN d[4].toNat = hf at *
  unfold zeroCells13 at c3
  go_enter Tryz.func75, Tryz.ntmps75
  go_upto_region 8 with (first | (go_at_call 95; refine (c1 _).mono ?_; rintro e w' ⟨rfl, hw⟩; rw [hw]; clear hw w') | (go_at_call 122; refine (c2 _).mono ?_; rintro e w1 ⟨rfl, hb1⟩))
  obtain ⟨hA, hB, hb⟩ := two_blocks w w1 hb1; have HB := hid hb; have HA : Hid (w1.heap[w.heap.size]? = some (.cells zeroCells13 63)) := hA; have HB2 : Hid (w1.heap[w.heap.size + 1]? = some (.cells zeroCells13 63)) := hB
  have hlt1 : w.heap.size + 1 < w1.heap.size := by have := hb1.size; simp at this; omega
  clear hA hB hb hb1 c1 c2
  go_upto_region 11 with fail
  go_wp2_with (first | (go_at_call 123; refine (c3 _).mono ?_; rintro e w2 ⟨rfl, hb2⟩; have hA2 := (hb2.block w.heap.size (by omega)).trans HA.out; have hB2 := (hb2.block (w.heap.size + 1) hlt1).trans HB2.out; obtain ⟨g0, g1, g2, g3, g4, g5, g6, g7, g8, g9, g10, g11, g12⟩ := cells13 hB2; have fB : ∀ j, w2.frozen? ⟨w.heap.size + 1, j, none⟩ = false := fun j => frozen_of_row w2 _ j _ _ hB2; obtain ⟨a0, a1, a2, a3, a4, a5, a6, a7, a8, a9, a10, a11, a12⟩ := cells13 hA2; have fA : ∀ j, w2.frozen? ⟨w.heap.size, j, none⟩ = false := fun j => frozen_of_row w2 _ j _ _ hA2; have HBB : Hid (Below w.heap.size w w2) := below_tr HB.out hb2; clear hA2 hB2 hb2 c3))
  (try simp only [Exit.inBlock, Exit.then])
  refine bodyPost_ret (v := .tuple #[.agg zeroCells13, .int .i64 0, .bool false]) ?_ ?_ ?_
  · rw [results_cell_tmp2 (fn := Tryz.f75) rfl]; simp [go_sem, zeroCells13, a0, a1, a2, a3, a4, a5, a6, a7, a8, a9, a10, a11, a12]
  · rfl
  · refine ⟨.zero, ?_⟩
    repeat (refine Below.setCell ?_ (by first | exact Nat.le_refl _ | exact Nat.le_succ _) _)
    exact HBB.out
end Go.Proofs.YtabpkohcimiceabGreat
