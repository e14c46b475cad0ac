import Derived.Test.YtabpkohcimiceaaHeldM
import Derived.Test.YtabpkohcimiceaaBoxL
import Derived.Test.YtabpkohcimiceaaBoxW
import Derived.Test.YtabpkohcimiceaaBoxK
import Derived.WalkKit
import Derived.WalkSpells
import Derived.WalkLawsBesides
import Derived.OwnWalk
import Derived.Laws.ResultCell
import Derived.BigRegion
import Derived.Deep.QuietTactic
import Derived.BigQuiet
namespace Go.Proofs.Ytabpkohcimiceaa
open Go.RowKit
set_option linter.unusedVariables false

set_option maxRecDepth 100000 in
set_option maxHeartbeats 2000000 in
theorem seen_no (t : ByteArray) (c : Nat) (w : World) (ht : 64 ≤ t.size) (ht2 : t.size ≤ 1000) (hc2 : c ≤ 30) (h : ¬ (t[6].toNat = c ∧ t[7].toNat ≤ c)) :
    Calls Try.prog 133 #[.string t, .int .i64 c] w fun e w' => e = .returned (.tuple #[.agg zeroCells13, .bool false]) ∧ Below w.heap.size w w' := by
  have b6 := t[6].toNat_lt
  have b7 := t[7].toNat_lt
  have n6 : 6 < t.size := by omega
  have n7 : 7 < t.size := by omega
  have s6 : (6 : Int) < (t.size : Int) := by omega
  have s7 : (7 : Int) < (t.size : Int) := by omega
  by_cases h6 : t[6].toNat = c
  · have q6 : (t[6].toNat : Int) = (c : Int) := by omega
    have q7 : (c : Int) < (t[7].toNat : Int) := by
      have : ¬ t[7].toNat ≤ c := fun x => h ⟨h6, x⟩
      omega
    clear h h6
    go_enter Try.func133, Try.ntmps133
    go_wp2
    (try simp only [Exit.inBlock, Exit.then])
    refine bodyPost_ret (v := .tuple #[.agg zeroCells13, .bool false]) ?_ ?_ ?_
    · rw [results_cell_tmp (fn := Try.f133) rfl]; simp [go_sem, zeroCells13]
    · rfl
    · refine ⟨rfl, ?_⟩
      exact ((Below.refl _ _).alloc (Nat.le_refl _) _).alloc (by simp) _
  · have q6 : ¬ (t[6].toNat : Int) = (c : Int) := by omega
    clear h h6
    go_enter Try.func133, Try.ntmps133
    go_wp2
    (try simp only [Exit.inBlock, Exit.then])
    refine bodyPost_ret (v := .tuple #[.agg zeroCells13, .bool false]) ?_ ?_ ?_
    · rw [results_cell_tmp (fn := Try.f133) rfl]; simp [go_sem, zeroCells13]
    · rfl
    · refine ⟨rfl, ?_⟩
      exact ((Below.refl _ _).alloc (Nat.le_refl _) _).alloc (by simp) _

theorem results_cell_tmp2 {fn : Func} {p u u' : Tmp} {ty : TypeId} (h : fn.results = #[.cell p ty, .tmp u, .tmp u']) (tmps : Array Value) (P : Program) (w : World) :
    (results fn tmps).run P w =
      ((asAddr (tmps.getD p undef)).run P w).andThen fun a w₁ => ((loadVar ty a).run P w₁).andThen fun v w₂ => .ok (.tuple #[v, tmps.getD u undef, tmps.getD u' undef]) w₂ := by
  simp only [results, h]
  simp [Sem.run_bind, Result.andThen]

/-- Held, of a disk whose box is not right: false. -/
def HeldNo (e : Ending) : Prop := ∃ (s : StM) (a : Option Addr) (n c : Nat) (l : Int), e = .returned (.tuple #[.agg (stCells s (.slice a n c)), .int .i64 l, .bool false])
def zeroS : StM := { role := 0, step := 0, sent := 0, got := 0, prev := 0, skip := 0, cap := 0, root := [], out := [], inn := [], secret := 0, peer := 0, kept := [] }
theorem zeroS_cells : stCells zeroS (.slice none 0 0) = zeroCells13 := rfl
theorem HeldNo.zero : HeldNo (.returned (.tuple #[.agg zeroCells13, .int .i64 0, .bool false])) := ⟨zeroS, none, 0, 0, 0, rfl⟩

set_option maxRecDepth 100000 in
set_option maxHeartbeats 2000000 in
theorem held_early (d : ByteArray) (w : World) (hd : 32 ≤ d.size) (hd2 : d.size ≤ 1280) (h : ¬ (d[4].toNat ≤ 30 ∧ d[5].toNat ≤ 1)) :
    Calls Try.prog 90 #[.string d] w fun e w' => HeldNo e ∧ Below w.heap.size w w' := by
  have n4 : 4 < d.size := by omega
  have n5 : 5 < d.size := by omega
  have s4 : (4 : Int) < (d.size : Int) := by omega
  have s5 : (5 : Int) < (d.size : Int) := by omega
  have s32 : ¬ (d.size : Int) < 32 := by omega
  by_cases h4 : d[4].toNat ≤ 30
  · have q4 : ¬ (30 : Int) < (d[4].toNat : Int) := by omega
    have q5 : (1 : Int) < (d[5].toNat : Int) := by
      have : ¬ d[5].toNat ≤ 1 := fun x => h ⟨h4, x⟩
      omega
    clear h h4
    go_enter Try.func90, Try.ntmps90
    go_wp2
    (try simp only [Exit.inBlock, Exit.then])
    refine bodyPost_ret (v := .tuple #[.agg zeroCells13, .int .i64 0, .bool false]) ?_ ?_ ?_
    · rw [results_cell_tmp2 (fn := Try.f90) rfl]; simp [go_sem, zeroCells13]
    · rfl
    · refine ⟨.zero, ?_⟩
      exact ((Below.refl _ _).alloc (Nat.le_refl _) _).alloc (by simp) _
  · have q4 : (30 : Int) < (d[4].toNat : Int) := by omega
    clear h h4
    go_enter Try.func90, Try.ntmps90
    go_wp2
    (try simp only [Exit.inBlock, Exit.then])
    refine bodyPost_ret (v := .tuple #[.agg zeroCells13, .int .i64 0, .bool false]) ?_ ?_ ?_
    · rw [results_cell_tmp2 (fn := Try.f90) rfl]; simp [go_sem, zeroCells13]
    · rfl
    · refine ⟨.zero, ?_⟩
      exact ((Below.refl _ _).alloc (Nat.le_refl _) _).alloc (by simp) _

/-- The two blocks of Held's variables. -/
theorem two_blocks (w w1 : World) (hb1 : Below ((w.alloc (.cells zeroCells13 111)).alloc (.cells zeroCells13 111)).heap.size ((w.alloc (.cells zeroCells13 111)).alloc (.cells zeroCells13 111)) w1) :
    w1.heap[w.heap.size]? = some (.cells zeroCells13 111) ∧ w1.heap[w.heap.size + 1]? = some (.cells zeroCells13 111) ∧ Below w.heap.size w w1 := by
  refine ⟨?_, ?_, ?_⟩
  · refine (hb1.block _ (by simp; omega)).trans ?_
    exact (Below.heap_alloc _ _ _ (by simp)).trans (heap_alloc_new w _)
  · refine (hb1.block _ (by simp)).trans ?_
    have := heap_alloc_new (w.alloc (.cells zeroCells13 111)) (.cells zeroCells13 111)
    have e : (w.alloc (.cells zeroCells13 111)).heap.size = w.heap.size + 1 := by simp
    rw [e] at this
    exact this
  · exact (((Below.refl _ _).alloc (Nat.le_refl _) _).alloc (by simp) _).trans (hb1.mono (by simp; omega))
theorem take_eq (d : ByteArray) (n : Nat) : (d.extract 0 n).data.toList = d.data.toList.take n := by simp [ByteArray.data_extract]
theorem ext_beq (d : ByteArray) (n : Nat) (y : List UInt8) : ((d.extract 0 n).toList == (str y).toList) = decide (d.data.toList.take n = y) := by
  rw [ByteArray.toList_eq, ByteArray.toList_eq, str_toList, take_eq]
  by_cases h : d.data.toList.take n = y
  · rw [decide_eq_true h, h]; simp
  · rw [decide_eq_false h, beq_eq_false_iff_ne]; exact h

end Go.Proofs.Ytabpkohcimiceaa
