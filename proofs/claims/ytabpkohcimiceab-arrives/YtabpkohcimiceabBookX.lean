import Derived.Test.YtabpkohcimiceabAllX
namespace Go.Proofs.Ytabpkohcimiceab
set_option maxRecDepth 100000
set_option maxHeartbeats 1000000
open Go.RowKit
set_option linter.unusedVariables false
set_option linter.unusedSimpArgs false
def IdsAt (w : World) (v : Value) (l : List EntM) : Prop := (l = [] ∧ ∃ a c, v = .slice a 0 c) ∨ ∃ b off cap, v = .slice (some ⟨b, off, none⟩) l.length cap ∧ l.length ≤ cap ∧ cap ≤ maxLen ∧ b < w.heap.size ∧ ∀ i, i < l.length → w.cell? ⟨b, off + i * 2, none⟩ = some (.int .i64 ((l.getD i default).step : Int)) ∧ w.cell? ⟨b, off + i * 2 + 1, none⟩ = some (.int .i64 ((l.getD i default).count : Int))
theorem IdsAt.form {w : World} {v : Value} {l : List EntM} (h : IdsAt w v l) : ∃ a c, v = .slice a l.length c := by
  rcases h with ⟨h1, a, c, h2⟩ | ⟨b, off, cap, h1, _⟩
  · exact ⟨a, c, by rw [h1, h2]; rfl⟩
  · exact ⟨_, _, h1⟩
theorem IdsAt.only {S : Nat → Prop} {w w' : World} {v : Value} {l : List EntM} (h : IdsAt w v l) (ho : Only S w w') (hs : l ≠ [] → ∀ k, v.ownBlock = some k → ¬ S k) : IdsAt w' v l := by
  rcases h with h | ⟨b, off, cap, h1, h2, h3, h4, h5⟩
  · exact .inl h
  · by_cases hne : l = []
    · exact .inl ⟨hne, _, _, by rw [h1, hne]; rfl⟩
    have hb := ho.block b h4 (hs hne b (by rw [h1]; rfl))
    refine .inr ⟨b, off, cap, h1, h2, h3, Nat.lt_of_lt_of_le h4 ho.size, fun i hi => ?_⟩
    have := h5 i hi
    unfold World.cell? at this ⊢
    rw [hb]; exact this
theorem IdsAt.next {w w' : World} {v : Value} {l : List EntM} (h : IdsAt w v l) (hb : Below w.heap.size w w') : IdsAt w' v l := h.only (S := fun _ => False) (Only.of_below hb) (fun _ _ _ q => q)
theorem IdsAt.at {w : World} {av : Option Addr} {ac : Nat} {l : List EntM} (h : IdsAt w (.slice av l.length ac) l) {j : Nat} (hj : j < l.length) : ∃ b off, av = some ⟨b, off, none⟩ ∧ b < w.heap.size ∧ w.cell? ⟨b, off + j * 2, none⟩ = some (.int .i64 ((l.getD j default).step : Int)) ∧ w.cell? ⟨b, off + j * 2 + 1, none⟩ = some (.int .i64 ((l.getD j default).count : Int)) := by
  rcases h with ⟨q, _⟩ | ⟨b, off, cap, h1, h2, h3, h4, h5⟩
  · rw [q] at hj; simp at hj
  · injection h1 with h1 _ _
    exact ⟨b, off, h1, h4, h5 j hj⟩
def FreshV (b : Nat) (v : Value) : Prop := ∀ k, v.ownBlock = some k → b ≤ k
theorem FreshV.own {w : World} {base b n : Nat} {e : TypeId} {v : Value} {xs : List Value} (h : w.ownsRow base e 2 v n xs) (hb : b ≤ base) : FreshV b v := fun k hk => Nat.le_trans hb (h.lt k hk).1
theorem Only.drew {S : Nat → Prop} {w w1 : World} (h : Only S w w1) : Only S w w1.drew := ⟨h.os, h.tape, h.output, h.size, h.block⟩
end Go.Proofs.Ytabpkohcimiceab
