import Derived.Test.YtabpkohcimiceabBoxA
import Derived.WalkKit
import Derived.WalkSpells
import Derived.WalkLawsBesides
import Derived.Deep.RegionHeld3
import Derived.Deep.DeepMust
import Derived.Deep.DrawnRows
import Derived.Deep.DeepCutAuto
namespace Go.Proofs.Ytabpkohcimiceab
open Go.RowKit
set_option linter.unusedVariables false
attribute [local go_sem ↓] Go.wp_at_zero Go.wp_at_succ

/-- A box that lies in a variable: block g. -/
structure StAt (w : World) (g : Nat) (s : StM) (v : Value) : Prop where
  lt : g < w.heap.size
  c0 : w.cell? ⟨g, 0, none⟩ = some (.int .i64 (s.role : Int))
  c1 : w.cell? ⟨g, 1, none⟩ = some (.int .i64 (s.step : Int))
  c2 : w.cell? ⟨g, 2, none⟩ = some (.int .i64 (s.sent : Int))
  c3 : w.cell? ⟨g, 3, none⟩ = some (.int .i64 (s.got : Int))
  c4 : w.cell? ⟨g, 4, none⟩ = some (.int .i64 (s.prev : Int))
  c5 : w.cell? ⟨g, 5, none⟩ = some (.int .i64 (s.skip : Int))
  c6 : w.cell? ⟨g, 6, none⟩ = some (.int .i64 (s.cap : Int))
  c7 : w.cell? ⟨g, 7, none⟩ = some (.string (str s.root))
  c8 : w.cell? ⟨g, 8, none⟩ = some (.string (str s.out))
  c9 : w.cell? ⟨g, 9, none⟩ = some (.string (str s.inn))
  c10 : w.cell? ⟨g, 10, none⟩ = some (.int .i64 (s.secret : Int))
  c11 : w.cell? ⟨g, 11, none⟩ = some (.int .i64 (s.peer : Int))
  c12 : w.cell? ⟨g, 12, none⟩ = some v
theorem StAt.next {w w' : World} {g : Nat} {s : StM} {v : Value} (h : StAt w g s v) (hb : Below w.heap.size w w') : StAt w' g s v := by
  have f : ∀ i x, w.cell? ⟨g, i, none⟩ = some x → w'.cell? ⟨g, i, none⟩ = some x := fun i x hx => (hb.cell (p := ⟨g, i, none⟩) h.lt).trans hx
  exact ⟨Nat.lt_of_lt_of_le h.lt hb.size, f _ _ h.c0, f _ _ h.c1, f _ _ h.c2, f _ _ h.c3, f _ _ h.c4, f _ _ h.c5, f _ _ h.c6, f _ _ h.c7, f _ _ h.c8, f _ _ h.c9, f _ _ h.c10, f _ _ h.c11, f _ _ h.c12⟩
/-- The numbers fit in bytes, the keys have 8 bytes. -/
structure StOk (s : StM) : Prop where
  role : s.role ≤ 255
  step : s.step ≤ 255
  sent : s.sent ≤ 255
  got : s.got ≤ 255
  prev : s.prev ≤ 255
  skip : s.skip ≤ 255
  cap : s.cap ≤ 255
  root : s.root.length = 8
  out : s.out.length = 8
  inn : s.inn.length = 8
  secret : s.secret < 4294967296
  peer : s.peer < 4294967296
  kept : s.kept.length ≤ 255
  keys : ∀ e ∈ s.kept, e.step ≤ 255 ∧ e.count ≤ 255 ∧ e.key.length = 8

attribute [local go_sem] str_one_size

end Go.Proofs.Ytabpkohcimiceab
