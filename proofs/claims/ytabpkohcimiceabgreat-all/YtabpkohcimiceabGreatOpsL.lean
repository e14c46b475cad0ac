import Derived.Test.YtabpkohcimiceabGreatAllH
import Derived.WalkKit
import Derived.ProofKit
import Derived.OpenShut
import Derived.ChangeOld
import Derived.Below
import Derived.Deep.Slices
namespace Go.Proofs.YtabpkohcimiceabGreat
open Go.ChangeShapes Go.WideShapes Go.ChangeAt Go.RowKit Go.Deep
set_option linter.unusedVariables false
theorem Tryz.cellsOp : Tryz.prog.cellsOf 31 = 11 := by kernel_rfl
theorem Tryz.cellsIntO : Tryz.prog.cellsOf 3 = 1 := by kernel_rfl
theorem Tryz.cellsStrO : Tryz.prog.cellsOf 9 = 1 := by kernel_rfl
theorem Tryz.cellsBoolO : Tryz.prog.cellsOf 4 = 1 := by kernel_rfl
theorem Tryz.cellsCfg : Tryz.prog.cellsOf 29 = 4 := by kernel_rfl
theorem eleven_of {α : Type} (l : List α) (h : l.length = 11) : ∃ c0 c1 c2 c3 c4 c5 c6 c7 c8 c9 c10, l = [c0, c1, c2, c3, c4, c5, c6, c7, c8, c9, c10] := by
  match l, h with
  | [c0, c1, c2, c3, c4, c5, c6, c7, c8, c9, c10], _ => exact ⟨c0, c1, c2, c3, c4, c5, c6, c7, c8, c9, c10, rfl⟩
instance : Inhabited OpM := ⟨opZ⟩
theorem some_of {α : Type} {o : Option α} {l : List α} {i : Nat} (h : o = l[i]?) (hi : i < l.length) : ∃ x, o = some x := ⟨l[i], by rw [h, List.getElem?_eq_getElem hi]⟩
set_option maxRecDepth 100000 in
theorem cfg_cells {H : Type} {enc : TypeId × Value → H} {W : World} {sp : Nat → Bool} {held : Bool} {n : Nat} {c0 c1 c2 c3 : Value} {x : DataW H × List MemPlace} (h : DataW.trod enc Tryz.prog W 0 sp held n 29 [c0, c1, c2, c3] = some x) :
    ∃ o0 o1 o2 o3 : Int, c0 = .int .i64 o0 ∧ c1 = .int .i64 o1 ∧ c2 = .int .i64 o2 ∧ c3 = .int .i64 o3 ∧ (Lit.int .i64 o0).wf = true ∧ (Lit.int .i64 o1).wf = true ∧ (Lit.int .i64 o2).wf = true ∧ (Lit.int .i64 o3).wf = true := by
  obtain ⟨xs, m, rfl, hx, hl, hlen, hg⟩ := DataW.trod_struct Tryz.underlying29 h
  have hlen4 : xs.length = 4 := hlen
  obtain ⟨y0, g0⟩ := some_of (hg 0 _ rfl) (by omega)
  obtain ⟨y1, g1⟩ := some_of (hg 1 _ rfl) (by omega)
  obtain ⟨y2, g2⟩ := some_of (hg 2 _ rfl) (by omega)
  obtain ⟨y3, g3⟩ := some_of (hg 3 _ rfl) (by omega)
  obtain ⟨o0, e0, _, w0⟩ := DataW.trod_int Tryz.underlying3 g0
  obtain ⟨o1, e1, _, w1⟩ := DataW.trod_int Tryz.underlying3 g1
  obtain ⟨o2, e2, _, w2⟩ := DataW.trod_int Tryz.underlying3 g2
  obtain ⟨o3, e3, _, w3⟩ := DataW.trod_int Tryz.underlying3 g3
  refine ⟨o0, o1, o2, o3, ?_, ?_, ?_, ?_, w0, w1, w2, w3⟩
  · simpa [Tryz.cellsIntO] using e0
  · simpa [Tryz.cellsIntO] using e1
  · simpa [Tryz.cellsIntO] using e2
  · simpa [Tryz.cellsIntO] using e3
set_option maxRecDepth 100000 in
theorem op_cells {H : Type} {enc : TypeId × Value → H} {W : World} {sp : Nat → Bool} {held : Bool} {n : Nat} {cs : List Value} {x : DataW H × List MemPlace} (h : DataW.trod enc Tryz.prog W 0 sp held n 31 cs = some x) :
    ∃ o : OpM, cs = opC o ∧ OpOk o := by
  obtain ⟨xs, m, rfl, hx, hl, hlen, hg⟩ := DataW.trod_struct Tryz.underlying31 h
  rw [Tryz.cellsOp] at hl
  obtain ⟨c0, c1, c2, c3, c4, c5, c6, c7, c8, c9, c10, rfl⟩ := eleven_of cs hl
  have hlen8 : xs.length = 8 := hlen
  obtain ⟨y0, g0⟩ := some_of (hg 0 _ rfl) (by omega)
  obtain ⟨y1, g1⟩ := some_of (hg 1 _ rfl) (by omega)
  obtain ⟨y2, g2⟩ := some_of (hg 2 _ rfl) (by omega)
  obtain ⟨y3, g3⟩ := some_of (hg 3 _ rfl) (by omega)
  obtain ⟨y4, g4⟩ := some_of (hg 4 _ rfl) (by omega)
  obtain ⟨y5, g5⟩ := some_of (hg 5 _ rfl) (by omega)
  obtain ⟨y6, g6⟩ := some_of (hg 6 _ rfl) (by omega)
  obtain ⟨y7, g7⟩ := some_of (hg 7 _ rfl) (by omega)
  obtain ⟨kd, e0, _, w0⟩ := DataW.trod_int Tryz.underlying3 g0
  obtain ⟨who, e1, _, w1⟩ := DataW.trod_int Tryz.underlying3 g1
  obtain ⟨nn, e2, _, w2⟩ := DataW.trod_int Tryz.underlying3 g2
  obtain ⟨dr, e3, _, w3⟩ := DataW.trod_int Tryz.underlying3 g3
  obtain ⟨tx, e5, _, w5⟩ := DataW.trod_string Tryz.underlying9 g5
  obtain ⟨ty, e6, _, w6⟩ := DataW.trod_string Tryz.underlying9 g6
  obtain ⟨cut, e7, _⟩ := DataW.trod_bool Tryz.underlying4 g7
  have g4' : DataW.trod enc Tryz.prog W 0 sp held m 29 [c4, c5, c6, c7] = some y4 := by simpa [Tryz.cellsCfg] using g4
  obtain ⟨o0, o1, o2, o3, q0, q1, q2, q3, z0, z1, z2, z3⟩ := cfg_cells g4'
  have e0' : c0 = .int .i64 kd := by simpa [Tryz.cellsIntO] using e0
  have e1' : c1 = .int .i64 who := by simpa [Tryz.cellsIntO] using e1
  have e2' : c2 = .int .i64 nn := by simpa [Tryz.cellsIntO] using e2
  have e3' : c3 = .int .i64 dr := by simpa [Tryz.cellsIntO] using e3
  have e5' : c8 = .string tx := by simpa [Tryz.cellsStrO] using e5
  have e6' : c9 = .string ty := by simpa [Tryz.cellsStrO] using e6
  have e7' : c10 = .bool cut := by simpa [Tryz.cellsBoolO] using e7
  exact ⟨⟨kd, who, nn, dr, o0, o1, o2, o3, tx, ty, cut⟩, by rw [e0', e1', e2', e3', q0, q1, q2, q3, e5', e6', e7']; rfl, ⟨w2, w3, z0, z1, z2, z3, w5, w6⟩⟩
set_option maxRecDepth 100000 in
/-- A slice of steps that came in. -/
theorem ops_arg {H : Type} {enc : TypeId × Value → H} {W : World} {base : Nat} {v : Value} {d : DataW H} {p : List MemPlace} (hok : Value.okWide Tryz.prog W .any base 22 v) (h : DataW.Trod enc Tryz.prog W 0 (fun _ => true) true 22 v d p) :
    ∃ l : List OpM, OpsAt W v l ∧ (∀ o ∈ l, OpOk o) ∧ ((d = .nil ∧ l = []) ∨ ∃ es sp, d = .slice es sp ∧ l.length ≤ es.length + sp.length) := by
  obtain ⟨a0, len, cap, rfl⟩ := okWide_slice Tryz.underlying22 hok
  obtain ⟨fuel, hf⟩ := h
  rcases open_slice Tryz.underlying22 hf with ⟨hcs, hx⟩ | ⟨a, len', cap', m, n, D, Pl, hcs, _, hl, hm, hmm, hx, hel⟩
  · simp [Value.cells] at hcs
    obtain ⟨rfl, rfl, rfl⟩ := hcs
    simp only [Prod.mk.injEq] at hx
    exact ⟨[], .inl ⟨rfl, none, 0, rfl⟩, fun x hx => by simp at hx, .inl ⟨hx.1, rfl⟩⟩
  · simp [Value.cells] at hcs
    obtain ⟨rfl, rfl, rfl⟩ := hcs
    simp only [Prod.mk.injEq] at hx
    have hlm : len ≤ m := by rw [hmm]; split <;> omega
    rw [Tryz.cellsOp] at hel
    obtain ⟨f, hf2⟩ := choose_lt (α := OpM) (n := len) (p := fun i o => W.cells? 0 (a.add (i * 11)) 11 = some (opC o) ∧ OpOk o) (fun i hi => by
      obtain ⟨cs', h1, h2⟩ := hel i (by omega)
      obtain ⟨o, ho, hoo⟩ := op_cells h2
      exact ⟨o, by rw [h1, ho], hoo⟩)
    have hlen : ((List.range len).map f).length = len := by simp
    have hgd : ∀ i, i < len → ((List.range len).map f).getD i opZ = f i := fun i hi => by
      rw [List.getD_eq_getElem?_getD, List.getElem?_map, List.getElem?_range hi]; rfl
    refine ⟨(List.range len).map f, ?_, ?_, .inr ⟨_, _, hx.1, ?_⟩⟩
    · by_cases h0 : len = 0
      · subst h0
        exact .inl ⟨rfl, _, _, rfl⟩
      · right
        obtain ⟨_, _, hc0⟩ := World.cells?_some (hf2 0 (by omega)).1
        have hcell0 := hc0 0 (by omega)
        obtain ⟨b, off, spot⟩ := a
        have hsp0 : ((⟨b, off, spot⟩ : Addr).add (0 * 11)).add 0 = ⟨b, off, spot⟩ := by simp [Addr.add]
        rw [hsp0] at hcell0
        have hcell1 : W.cell? ⟨b, off, spot⟩ = some (.int .i64 (f 0).kd) := hcell0
        have hspot : spot = none := World.cell?_spot hcell1
        subst hspot
        refine ⟨b, off, cap, by rw [hlen], ?_, fun i hi j hj => ?_⟩
        · rcases Nat.lt_or_ge b W.heap.size with q | q
          · exact q
          · unfold World.cell? at hcell1
            rw [Array.getElem?_eq_none (by exact q)] at hcell1
            simp at hcell1
        · rw [hlen] at hi
          obtain ⟨_, _, hc⟩ := World.cells?_some (hf2 i hi).1
          have := hc j hj
          rw [add_add, add_plain, ← Nat.add_assoc] at this
          rw [hgd i hi, this]
    · intro o ho
      obtain ⟨i, hi, rfl⟩ := List.mem_map.1 ho
      exact (hf2 i (List.mem_range.1 hi)).2
    · simp
end Go.Proofs.YtabpkohcimiceabGreat
