import Derived.Test.YtabpkohcimiceaaPlanM
import Derived.WalkKit
import Derived.WalkSpells
import Derived.WalkLawsBesides
import Derived.OwnWalk
import Derived.Deep.AppendSrc
import Derived.Deep.MidRow
import Derived.Deep.AppendLies
import Derived.Laws.IdiomStrings
import Derived.Deep.DrawnRows
namespace Go.Proofs.Ytabpkohcimiceaa
open Go.RowKit
set_option linter.unusedVariables false

/-! ### A row of bytes that is appended to -/
structure BRow (w wr : World) (g cap : Nat) (l : List UInt8) : Prop where
  below : Below w.heap.size w wr
  new : w.heap.size ≤ g
  lt : g < wr.heap.size
  le : l.length ≤ cap
  holds : ∀ j, j < l.length → wr.cell? ⟨g, j, none⟩ = some (.int .u8 ((l.getD j 0).toNat : Int))
  there : ∀ j, j < cap → (wr.cell? ⟨g, j, none⟩).isSome = true ∧ wr.frozen? ⟨g, j, none⟩ = false

theorem BRow.next {w wr w' : World} {g cap : Nat} {l : List UInt8} (h : BRow w wr g cap l) (hb : Below wr.heap.size wr w') : BRow w w' g cap l := by
  refine ⟨below_tr h.below hb, h.new, Nat.lt_of_lt_of_le h.lt hb.size, h.le, fun j hj => ?_, fun j hj => ?_⟩
  · exact (hb.cell (p := ⟨g, j, none⟩) h.lt).trans (h.holds j hj)
  · rw [hb.cell (p := ⟨g, j, none⟩) h.lt, hb.frozen (p := ⟨g, j, none⟩) h.lt]; exact h.there j hj
theorem below_cells {B g : Nat} {a : World} (hg : B ≤ g) : ∀ (vs : List Value) (o : Nat) (w : World), Below B a w → Below B a (w.setCells g o vs)
  | [], _, _, h => h
  | v :: vs, o, w, h => below_cells hg vs (o + 1) _ (h.setCell (p := ⟨g, o, none⟩) hg v)
theorem size_cells (g : Nat) : ∀ (vs : List Value) (o : Nat) (w : World), (w.setCells g o vs).heap.size = w.heap.size
  | [], _, _ => rfl
  | v :: vs, o, w => by rw [World.setCells, size_cells g vs, World.size_setCell]
theorem cellsOf_byteCells (s : ByteArray) : byteCells s = cellsOf s.data.toList := rfl
theorem cellsOf_getD (l : List UInt8) (j : Nat) (h : j < (cellsOf l).length) : (cellsOf l)[j] = .int .u8 ((l.getD j 0).toNat : Int) := by
  have h' : j < l.length := by rw [cellsOf_length] at h; exact h
  have := cellsOf_at l j h'
  rw [List.getElem?_eq_getElem h] at this
  injection this with this
  rw [this, getD_of_getElem l j h']

theorem run_append_brow {w wr : World} {g cap : Nat} {l : List UInt8} (h : BRow w wr g cap l) (tx ty : TypeId) (x : Value) (b : List UInt8) (hs : Src Try.prog 1 tx x b.length (cellsOf b) wr) (hsm : l.length + b.length ≤ 1000000) :
    ∃ g' cap' w', (Builtin.append_ #[42, tx] ty #[.slice (some ⟨g, 0, none⟩) l.length cap, x]).run Try.prog wr = .ok (.slice (some ⟨g', 0, none⟩) (l.length + b.length) cap') w' ∧ BRow w w' g' cap' (l ++ b) := by
  obtain ⟨i0, hi0, hz0, hz1, hz2⟩ := info_parts Try.info5
  have hs' : Src Try.prog i0.size tx x b.length (cellsOf b) wr := by rw [hz1]; exact hs
  have hbl := h.below.size
  by_cases hroom : l.length + b.length ≤ cap
  · have hr := run_append_room_src (P := Try.prog) wr 42 tx ty 5 i0 Try.underlying42 hi0 g 0 l.length cap x b.length (cellsOf b) hs' hroom
      (by rw [hz1]; intro j hj; rw [cellsOf_length] at hj; rw [show 0 + l.length * 1 + j = l.length + j by omega]; exact (h.there _ (by omega)).1)
      (by rw [hz1]; intro j hj; rw [cellsOf_length] at hj; rw [show 0 + l.length * 1 + j = l.length + j by omega]; exact (h.there _ (by omega)).2)
    rw [hz1, show 0 + l.length * 1 = l.length by omega] at hr
    refine ⟨g, cap, _, hr, below_cells h.new _ _ _ h.below, h.new, by rw [size_cells]; exact h.lt, by rw [List.length_append]; exact hroom, ?_, ?_⟩
    · intro j hj
      rw [List.length_append] at hj
      rw [getD_app]
      by_cases hjl : j < l.length
      · rw [if_pos hjl, World.cell?_setCells_out g _ _ wr ⟨g, j, none⟩ (fun _ _ => .inl hjl)]; exact h.holds j hjl
      · rw [if_neg hjl]
        have := World.cell?_setCells_in g (cellsOf b) l.length wr (by intro q hq; rw [cellsOf_length] at hq; exact (h.there _ (by omega)).1) (j - l.length) (by rw [cellsOf_length]; omega)
        rw [show l.length + (j - l.length) = j by omega] at this
        rw [this, cellsOf_getD]
    · intro j hj
      obtain ⟨q1, q2⟩ := h.there j hj
      exact ⟨World.isSome_setCells g _ _ wr _ q1, by rw [World.frozen?_setCells]; exact q2⟩
  · have hold : (Builtin.firstCells i0.size l.length (.slice (some ⟨g, 0, none⟩) l.length cap)).run Try.prog wr.drew = .ok (cellsOf l).toArray wr.drew := by
      rw [hz1]
      refine run_firstCells_some wr.drew 1 l.length ⟨g, 0, none⟩ l.length cap (cellsOf l) (by rw [cellsOf_length]; omega) ?_
      intro j u hu
      have hj : j < (cellsOf l).length := (List.getElem?_eq_some_iff.1 hu).1
      have e : (⟨g, 0, none⟩ : Addr).add j = ⟨g, j, none⟩ := by
        simp [Addr.add]
        exact fun h => h.symm
      rw [e]
      rw [cellsOf_length] at hj
      have := h.holds j hj
      rw [cellsOf_at l j hj] at hu
      rw [getD_of_getElem l j hj] at this
      rw [← hu]; exact this
    have hr := run_append_grow_src (P := Try.prog) wr 42 tx ty 5 i0 (.int .u8 0) Try.underlying42 hi0 hz0 (some ⟨g, 0, none⟩) l.length cap (cellsOf l) hold x b.length (cellsOf b) hs' (by omega) (by omega) (growslice_fits (by omega) (by rw [hz2]; omega))
    have hge := grownCap_ge wr (l.length + b.length) cap 5
    refine ⟨_, _, _, hr, ?_⟩
    generalize grownCap wr (l.length + b.length) cap 5 = C at *
    have hz : (Value.int .u8 0).cells = #[Value.int .u8 0] := rfl
    have hsz : ((cellsOf l ++ cellsOf b).toArray ++ Builtin.zeroCells (Value.int .u8 0).cells (C - (l.length + b.length))).size = C := by
      rw [Array.size_append, List.size_toArray, List.length_append, cellsOf_length, cellsOf_length, size_zeroCells, hz]
      simp; omega
    refine ⟨(h.below.drew).alloc (by simpa using hbl) _, by simpa using hbl, by simp, by rw [List.length_append]; exact hge, ?_, ?_⟩
    · intro j hj
      have e1 := World.cell?_alloc_new wr.drew ((cellsOf l ++ cellsOf b).toArray ++ Builtin.zeroCells (Value.int .u8 0).cells (C - (l.length + b.length))) 5 j
      have e0 : wr.drew.heap.size = wr.heap.size := rfl
      rw [e0] at e1
      rw [e1]
      have hj' : j < (cellsOf (l ++ b)).length := by rw [cellsOf_length]; exact hj
      rw [Array.getElem?_append_left (by rw [List.size_toArray, ← cellsOf_append]; exact hj'), List.getElem?_toArray, ← cellsOf_append, List.getElem?_eq_getElem hj', cellsOf_getD]
    · intro j hj
      have e1 := World.cell?_alloc_new wr.drew ((cellsOf l ++ cellsOf b).toArray ++ Builtin.zeroCells (Value.int .u8 0).cells (C - (l.length + b.length))) 5 j
      have e2 := World.frozen?_alloc_new wr.drew ((cellsOf l ++ cellsOf b).toArray ++ Builtin.zeroCells (Value.int .u8 0).cells (C - (l.length + b.length))) 5 j
      have e0 : wr.drew.heap.size = wr.heap.size := rfl
      rw [e0] at e1 e2
      rw [e1, e2, Array.getElem?_eq_getElem (by rw [hsz]; exact hj)]
      exact ⟨rfl, rfl⟩

theorem wpList_append_brow {w wr : World} {g cap : Nat} {l : List UInt8} {ops : Array Oper} {rest : List Oper} {o : Oper} {a : Act} {Q : Exit → Act → World → Prop} (hgd : o.guard = none) (s x : Operand) (tx : TypeId)
    (ho : o.op = .call { callee := .builtin .append, args := #[s, x], argTypes := #[42, tx] }) (h : BRow w wr g cap l) (hse : a.eval s = .slice (some ⟨g, 0, none⟩) l.length cap)
    (xv : Value) (hx : a.eval x = xv) (b : List UInt8) (hs : Src Try.prog 1 tx xv b.length (cellsOf b) wr) (hsm : l.length + b.length ≤ 1000000)
    (K : ∀ g' cap' w', BRow w w' g' cap' (l ++ b) → wpList Try.prog ops Q rest (a.put o.dst (.slice (some ⟨g', 0, none⟩) (l.length + b.length) cap')) w') : wpList Try.prog ops Q (o :: rest) a wr := by
  refine wpList_plain hgd fun _ hK => ?_
  obtain ⟨g', cap', w', hr, h2⟩ := run_append_brow h tx o.type xv b hs hsm
  unfold Oper.wp execOp
  simp only [ho, resolve, invoke, builtin, Sem.run_bind, Sem.run_pure, Result.andThen_ok, List.map_toArray, List.map_cons, List.map_nil, hse, hx, hr]
  exact hK _ _ (K g' cap' w' h2)

theorem BRow.lit (w : World) : BRow w (w.alloc (.cells #[] 5)) w.heap.size 0 [] :=
  ⟨(Below.refl _ _).alloc (Nat.le_refl _) _, Nat.le_refl _, by simp, Nat.le_refl _, fun j h => absurd h (Nat.not_lt_zero _), fun j h => absurd h (Nat.not_lt_zero _)⟩
/-- One byte, laid in a block of its own. -/
theorem src_one (wr : World) (c : UInt8) (cells : Array Value) (hc : cells = #[.int .u8 (c.toNat : Int)]) : Src Try.prog 1 42 (.slice (some ⟨wr.heap.size, 0, none⟩) 1 1) ([c] : List UInt8).length (cellsOf [c]) (wr.alloc (.cells cells 5)) := by
  subst hc
  refine Src.ofSlice (w := wr.alloc (.cells #[.int .u8 (c.toNat : Int)] 5)) Try.underlying42 ⟨wr.heap.size, 0, none⟩ 1 1 [.int .u8 (c.toNat : Int)] rfl ?_ (by simp [Value.oneCell'])
  exact World.news_of_block (cs := #[.int .u8 (c.toNat : Int)]) (t := 5) (fr := (0, 0)) (heap_alloc_new _ _)
theorem src_string (wr : World) (s : ByteArray) : Src Try.prog 1 9 (.string s) s.data.toList.length (cellsOf s.data.toList) wr := by
  rw [len_list]
  exact Src.ofString wr Try.underlying9 s
theorem conv_brow {w wr : World} {g cap : Nat} {l : List UInt8} (h : BRow w wr g cap l) :
    (convert 42 9 (.slice (some ⟨g, 0, none⟩) l.length cap)).run Try.prog wr = .ok (.string (str l)) wr :=
  run_convert_bytes_back wr 42 9 5 ⟨g, 0, none⟩ cap l Try.underlying42 Try.underlying5 Try.underlying9 (fun j hj => by
    have e : (⟨g, 0, none⟩ : Addr).add j = ⟨g, j, none⟩ := by
      simp [Addr.add]
      exact fun h => h.symm
    rw [e, h.holds j hj, getD_of_getElem l j hj])
end Go.Proofs.Ytabpkohcimiceaa
