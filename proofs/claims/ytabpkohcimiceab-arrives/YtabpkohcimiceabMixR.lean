import Derived.Test.YtabpkohcimiceabWord
import Derived.Deep.RegionHeld3
import Derived.Deep.RegionWith
import Derived.Deep.DrawnRows
import Derived.Deep.DeepCutAuto
namespace Go.Proofs.Ytabpkohcimiceab
set_option maxRecDepth 100000
set_option maxHeartbeats 1000000
open Go.RowKit
set_option linter.unusedVariables false
theorem wrap_u (x : W32) : IntKind.i64.wrap (u x) = u x := by
  have h := u_bd x
  obtain ⟨v, hv⟩ : ∃ v, v = u x := ⟨_, rfl⟩
  rw [← hv] at h ⊢
  show (if (true && decide (v % 2 ^ 64 ≥ 2 ^ 63)) = true then v % 2 ^ 64 - 2 ^ 64 else v % 2 ^ 64) = v
  rw [if_neg (by simp; omega)]
  omega
attribute [local go_sem ↓] Go.wp_at_zero Go.wp_at_succ
attribute [local go_sem] u_xor xor_len wd_take str_four_size wrap_u
structure Pair (w wr : World) (x y : W32) : Prop where
  below : Below w.heap.size w wr
  size : w.heap.size < wr.heap.size
  c0 : wr.cell? ⟨w.heap.size, 0, none⟩ = some (.int .u32 (u x))
  c1 : wr.cell? ⟨w.heap.size, 1, none⟩ = some (.int .u32 (u y))
  f0 : wr.frozen? ⟨w.heap.size, 0, none⟩ = false
  f1 : wr.frozen? ⟨w.heap.size, 1, none⟩ = false
theorem Pair.drew {w wr : World} {x y : W32} (h : Pair w wr x y) : Pair w wr.drew x y := ⟨h.below.drew, h.size, h.c0, h.c1, h.f0, h.f1⟩
theorem Pair.alloc {w wr : World} {x y : W32} (h : Pair w wr x y) (o : Obj) : Pair w (wr.alloc o) x y :=
  ⟨h.below.alloc h.below.size o, by have := h.size; simp; omega,
   by rw [World.cell?_alloc_old _ _ _ (by have := h.size; simp; omega)]; exact h.c0,
   by rw [World.cell?_alloc_old _ _ _ (by have := h.size; simp; omega)]; exact h.c1,
   by rw [World.frozen?_alloc_old _ _ _ (by have := h.size; simp; omega)]; exact h.f0,
   by rw [World.frozen?_alloc_old _ _ _ (by have := h.size; simp; omega)]; exact h.f1⟩
theorem Pair.set {w wr : World} {x y : W32} (h : Pair w wr x y) (x' y' : W32) :
    Pair w ((wr.setCell ⟨w.heap.size, 0, none⟩ (.int .u32 (u x'))).setCell ⟨w.heap.size, 1, none⟩ (.int .u32 (u y'))) x' y' :=
  ⟨(h.below.setCell (Nat.le_refl _) _).setCell (Nat.le_refl _) _, by rw [World.size_setCell, World.size_setCell]; exact h.size,
   by rw [World.cell?_setCell_other _ _ _ _ (by simp)]; exact World.cell?_setCell_same _ _ _ h.c0,
   World.cell?_setCell_same _ _ _ (by rw [World.cell?_setCell_other _ _ _ _ (by simp)]; exact h.c1),
   by rw [World.frozen?_setCell, World.frozen?_setCell]; exact h.f0,
   by rw [World.frozen?_setCell, World.frozen?_setCell]; exact h.f1⟩
end Go.Proofs.Ytabpkohcimiceab
