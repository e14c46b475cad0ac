import Derived.Test.YtabpkohcimiceabGrund
import Derived.Test.YtabpkohcimiceabRows
import Derived.Lib.SmallJoins
namespace Go.Proofs.Ytabpkohcimiceab
set_option maxRecDepth 100000
set_option maxHeartbeats 1000000
open Go.ChangeShapes Go.WideShapes Go.ChangeAt Go.RowKit Go.Joins Go.Deep
set_option linter.unusedVariables false
theorem eight_of {α : Type} (l : List α) (h : l.length = 8) : ∃ c0 c1 c2 c3 c4 c5 c6 c7, l = [c0, c1, c2, c3, c4, c5, c6, c7] := by
  match l, h with
  | [c0, c1, c2, c3, c4, c5, c6, c7], _ => exact ⟨c0, c1, c2, c3, c4, c5, c6, c7, rfl⟩
section
variable {H : Type} {enc : TypeId × Value → H} {P : Program} {w : World} {base : Nat} {spare : Nat → Bool} {held : Bool}
theorem open_agg8 {r : Reach} {b0 : Nat} {t : TypeId} {f0 f1 f2 f3 f4 f5 f6 f7 : Field} {v : Value} {d : DataW H} {p : List MemPlace} (hs : P.underlying t = some (.struct #[f0, f1, f2, f3, f4, f5, f6, f7])) (hone : oneCellFields P #[f0, f1, f2, f3, f4, f5, f6, f7] = true) (hC : P.cellsOf t = 8)
    (hv : Value.okWide P w r b0 t v) (h : DataW.Trod enc P w base spare held t v d p) :
    ∃ (v0 v1 v2 v3 v4 v5 v6 v7 : Value) (y0 y1 y2 y3 y4 y5 y6 y7 : DataW H × List MemPlace) (n : Nat), v = .agg #[v0, v1, v2, v3, v4, v5, v6, v7] ∧ d = .agg [y0.1, y1.1, y2.1, y3.1, y4.1, y5.1, y6.1, y7.1] ∧ p = y0.2 ++ (y1.2 ++ (y2.2 ++ (y3.2 ++ (y4.2 ++ (y5.2 ++ (y6.2 ++ (y7.2))))))) ∧
      DataW.trod enc P w base spare held n f0.type [v0] = some y0 ∧ DataW.trod enc P w base spare held n f1.type [v1] = some y1 ∧ DataW.trod enc P w base spare held n f2.type [v2] = some y2 ∧ DataW.trod enc P w base spare held n f3.type [v3] = some y3 ∧ DataW.trod enc P w base spare held n f4.type [v4] = some y4 ∧ DataW.trod enc P w base spare held n f5.type [v5] = some y5 ∧ DataW.trod enc P w base spare held n f6.type [v6] = some y6 ∧ DataW.trod enc P w base spare held n f7.type [v7] = some y7 := by
  obtain ⟨cs, rfl, hsz⟩ := okWide_struct hs hv; obtain ⟨l⟩ := cs; obtain ⟨c0, c1, c2, c3, c4, c5, c6, c7, rfl⟩ := eight_of l (hsz.trans hC); obtain ⟨fuel, hf⟩ := h; obtain ⟨xs, n, hx, hq, hl, hlen, hg⟩ := DataW.trod_struct hs hf; obtain ⟨y0, y1, y2, y3, y4, y5, y6, y7, rfl⟩ := eight_of xs hlen; obtain ⟨o0, k0⟩ := hone_of hone 0 f0 rfl; obtain ⟨o1, k1⟩ := hone_of hone 1 f1 rfl; obtain ⟨o2, k2⟩ := hone_of hone 2 f2 rfl; obtain ⟨o3, k3⟩ := hone_of hone 3 f3 rfl; obtain ⟨o4, k4⟩ := hone_of hone 4 f4 rfl; obtain ⟨o5, k5⟩ := hone_of hone 5 f5 rfl; obtain ⟨o6, k6⟩ := hone_of hone 6 f6 rfl; obtain ⟨o7, k7⟩ := hone_of hone 7 f7 rfl; have g0 := hg 0 f0 rfl; have g1 := hg 1 f1 rfl; have g2 := hg 2 f2 rfl; have g3 := hg 3 f3 rfl; have g4 := hg 4 f4 rfl; have g5 := hg 5 f5 rfl; have g6 := hg 6 f6 rfl; have g7 := hg 7 f7 rfl
  simp only [Prod.mk.injEq] at hq
  refine ⟨c0, c1, c2, c3, c4, c5, c6, c7, y0, y1, y2, y3, y4, y5, y6, y7, n, rfl, ?_, ?_, by simpa [Value.cells, o0, k0] using g0, by simpa [Value.cells, o1, k1] using g1, by simpa [Value.cells, o2, k2] using g2, by simpa [Value.cells, o3, k3] using g3, by simpa [Value.cells, o4, k4] using g4, by simpa [Value.cells, o5, k5] using g5, by simpa [Value.cells, o6, k6] using g6, by simpa [Value.cells, o7, k7] using g7⟩
  · rw [hq.1]; rfl
  · rw [hq.2]; simp
theorem shut_agg8 {t : TypeId} {f0 f1 f2 f3 f4 f5 f6 f7 : Field} {v0 v1 v2 v3 v4 v5 v6 v7 : Value} {y0 y1 y2 y3 y4 y5 y6 y7 : DataW H × List MemPlace} (hs : P.underlying t = some (.struct #[f0, f1, f2, f3, f4, f5, f6, f7])) (hone : oneCellFields P #[f0, f1, f2, f3, f4, f5, f6, f7] = true) (hC : P.cellsOf t = 8)
    (t0 : ∃ n, DataW.trod enc P w base spare held n f0.type [v0] = some y0) (t1 : ∃ n, DataW.trod enc P w base spare held n f1.type [v1] = some y1) (t2 : ∃ n, DataW.trod enc P w base spare held n f2.type [v2] = some y2) (t3 : ∃ n, DataW.trod enc P w base spare held n f3.type [v3] = some y3) (t4 : ∃ n, DataW.trod enc P w base spare held n f4.type [v4] = some y4) (t5 : ∃ n, DataW.trod enc P w base spare held n f5.type [v5] = some y5) (t6 : ∃ n, DataW.trod enc P w base spare held n f6.type [v6] = some y6) (t7 : ∃ n, DataW.trod enc P w base spare held n f7.type [v7] = some y7) :
    DataW.Trod enc P w base spare held t (.agg #[v0, v1, v2, v3, v4, v5, v6, v7]) (.agg [y0.1, y1.1, y2.1, y3.1, y4.1, y5.1, y6.1, y7.1]) (y0.2 ++ (y1.2 ++ (y2.2 ++ (y3.2 ++ (y4.2 ++ (y5.2 ++ (y6.2 ++ (y7.2)))))))) := by
  obtain ⟨n0, t0⟩ := t0; obtain ⟨n1, t1⟩ := t1; obtain ⟨n2, t2⟩ := t2; obtain ⟨n3, t3⟩ := t3; obtain ⟨n4, t4⟩ := t4; obtain ⟨n5, t5⟩ := t5; obtain ⟨n6, t6⟩ := t6; obtain ⟨n7, t7⟩ := t7; obtain ⟨o0, k0⟩ := hone_of hone 0 f0 rfl; obtain ⟨o1, k1⟩ := hone_of hone 1 f1 rfl; obtain ⟨o2, k2⟩ := hone_of hone 2 f2 rfl; obtain ⟨o3, k3⟩ := hone_of hone 3 f3 rfl; obtain ⟨o4, k4⟩ := hone_of hone 4 f4 rfl; obtain ⟨o5, k5⟩ := hone_of hone 5 f5 rfl; obtain ⟨o6, k6⟩ := hone_of hone 6 f6 rfl; obtain ⟨o7, k7⟩ := hone_of hone 7 f7 rfl
  have s0 := DataW.trod_le (show n0 ≤ n0 + n1 + n2 + n3 + n4 + n5 + n6 + n7 by omega) t0
  have s1 := DataW.trod_le (show n1 ≤ n0 + n1 + n2 + n3 + n4 + n5 + n6 + n7 by omega) t1
  have s2 := DataW.trod_le (show n2 ≤ n0 + n1 + n2 + n3 + n4 + n5 + n6 + n7 by omega) t2
  have s3 := DataW.trod_le (show n3 ≤ n0 + n1 + n2 + n3 + n4 + n5 + n6 + n7 by omega) t3
  have s4 := DataW.trod_le (show n4 ≤ n0 + n1 + n2 + n3 + n4 + n5 + n6 + n7 by omega) t4
  have s5 := DataW.trod_le (show n5 ≤ n0 + n1 + n2 + n3 + n4 + n5 + n6 + n7 by omega) t5
  have s6 := DataW.trod_le (show n6 ≤ n0 + n1 + n2 + n3 + n4 + n5 + n6 + n7 by omega) t6
  have s7 := DataW.trod_le (show n7 ≤ n0 + n1 + n2 + n3 + n4 + n5 + n6 + n7 by omega) t7
  have ts := trod_struct_mk (enc := enc) (w := w) (base := base) (spare := spare) (held := held) (n := n0 + n1 + n2 + n3 + n4 + n5 + n6 + n7) (cs := [v0, v1, v2, v3, v4, v5, v6, v7]) (xs := [y0, y1, y2, y3, y4, y5, y6, y7]) hs (by simp [hC]) (by simp [s0, o0, k0, s1, o1, k1, s2, o2, k2, s3, o3, k3, s4, o4, k4, s5, o5, k5, s6, o6, k6, s7, o7, k7])
  exact ⟨_, by simpa [Value.cells] using ts⟩
end
end Go.Proofs.Ytabpkohcimiceab
