import Derived.Test.YtabpkohcimiceabRecvP
import Derived.Test.YtabpkohcimiceabRefW
import Derived.Test.YtabpkohcimiceabSendX
import Derived.Test.YtabpkohcimiceabCreates
import Derived.Lib.Strings
import Derived.Laws.StructEq
import Derived.ProofKit
import Derived.OpenShut
import Derived.ShutString
namespace Go.Proofs.Ytabpkohcimiceab
set_option maxRecDepth 100000
set_option maxHeartbeats 1000000
open Go.RowKit
set_option linter.unusedVariables false
structure LtM where
  bytes : List UInt8
  text : List UInt8
  step : Nat
  count : Nat
  prev : Nat
  secret : Nat
  out : Bool
def ltZ : LtM := ⟨[], [], 0, 0, 0, 0, false⟩
def ltC (x : LtM) : List Value := [.string (str x.bytes), .string (str x.text), .int .i64 x.step, .int .i64 x.count, .int .i64 x.prev, .int .i64 x.secret, .bool x.out]
def ltsC : List LtM → List Value
  | [] => []
  | x :: l => ltC x ++ ltsC l
theorem ltsC_append : ∀ a b : List LtM, ltsC (a ++ b) = ltsC a ++ ltsC b
  | [], b => rfl
  | x :: a, b => by rw [List.cons_append, ltsC, ltsC_append a b, ltsC, List.append_assoc]
theorem ltsC_push (a : List LtM) (x : LtM) : ltsC (a ++ [x]) = ltsC a ++ ltC x := by rw [ltsC_append]; simp [ltsC]
theorem ltsC_at : ∀ (a : List LtM) (i : Nat), i < a.length → ∀ j, j < 7 → (ltsC a)[i * 7 + j]? = (ltC (a.getD i ltZ))[j]?
  | [], i, h, _, _ => by simp at h
  | x :: a, 0, _, j, hj => by
    rw [ltsC, Nat.zero_mul, Nat.zero_add, List.getElem?_append_left (by simp [ltC]; exact hj)]; rfl
  | x :: a, i + 1, h, j, hj => by
    rw [ltsC, List.getElem?_append_right (by simp [ltC]; omega), show (i + 1) * 7 + j - (ltC x).length = i * 7 + j by simp [ltC]; omega, ltsC_at a i (by simp at h; omega) j hj]
    rfl
theorem ltsC_set : ∀ (a : List LtM) (i : Nat), i < a.length → (ltsC a).set (i * 7 + 6) (.bool true) = ltsC (a.set i { a.getD i ltZ with out := true })
  | [], i, h => by simp at h
  | x :: a, 0, _ => rfl
  | x :: a, i + 1, h => by
    rw [List.set_cons_succ, ltsC, ltsC, List.set_append_right _ _ (by simp [ltC]; omega), show (i + 1) * 7 + 6 - (ltC x).length = i * 7 + 6 by simp [ltC]; omega, ltsC_set a i (by simp at h; omega)]
    rfl
structure Only (S : Nat → Prop) (w w' : World) : Prop where
  os : w'.os = w.os
  tape : w'.tape = w.tape
  output : w'.output = w.output
  size : w.heap.size ≤ w'.heap.size
  block : ∀ k, k < w.heap.size → ¬ S k → w'.heap[k]? = w.heap[k]?
theorem Only.refl (S : Nat → Prop) (w : World) : Only S w w := ⟨rfl, rfl, rfl, Nat.le_refl _, fun _ _ _ => rfl⟩
theorem Only.trans {S : Nat → Prop} {w w1 w2 : World} (h : Only S w w1) (h2 : Only S w1 w2) : Only S w w2 :=
  ⟨h2.os.trans h.os, h2.tape.trans h.tape, h2.output.trans h.output, Nat.le_trans h.size h2.size, fun k hk hs => (h2.block k (Nat.lt_of_lt_of_le hk h.size) hs).trans (h.block k hk hs)⟩
theorem Only.of_below {S : Nat → Prop} {w w' : World} (h : Below w.heap.size w w') : Only S w w' := ⟨h.os, h.tape, h.output, h.size, fun k hk _ => h.block k hk⟩
theorem Only.then {S : Nat → Prop} {w w1 w2 : World} (h : Only S w w1) (h2 : Below w1.heap.size w1 w2) : Only S w w2 := h.trans (Only.of_below h2)
theorem Only.set {S : Nat → Prop} {w w1 : World} (h : Only S w w1) {b i : Nat} (hb : S b) (x : Value) : Only S w (w1.setCell ⟨b, i, none⟩ x) :=
  h.trans ⟨rfl, rfl, rfl, by rw [World.size_setCell]; exact Nat.le_refl _, fun k _ hs => heap_setCell_other _ _ _ _ (fun e => hs (by rw [show k = b from e]; exact hb))⟩
theorem Only.grown {S : Nat → Prop} {w w1 w2 : World} {row : Option Nat} (h : Only S w w1) (hg : w1.grownBy w2 row) (hs : ∀ k, row = some k → k < w.heap.size → S k) : Only S w w2 := by
  obtain ⟨g1, g2, g3, g4, g5⟩ := hg
  refine ⟨g1.trans h.os, g2.trans h.tape, g3.trans h.output, Nat.le_trans h.size g4, fun k hk hk2 => (g5 k (Nat.lt_of_lt_of_le hk h.size) (fun e => hk2 (hs k e.symm hk))).trans (h.block k hk hk2)⟩
theorem Only.below {S : Nat → Prop} {w w' : World} {base : Nat} (h : Only S w w') (hb : base ≤ w.heap.size) (hs : ∀ k, S k → base ≤ k) : Below base w w' :=
  ⟨h.os, h.tape, h.output, h.size, fun k hk => h.block k (Nat.lt_of_lt_of_le hk hb) (fun q => by have := hs k q; omega)⟩
theorem Only.mono {S S' : Nat → Prop} {w w' : World} (h : Only S w w') (hs : ∀ k, k < w.heap.size → S k → S' k) : Only S' w w' :=
  ⟨h.os, h.tape, h.output, h.size, fun k hk hn => h.block k hk (fun q => hn (hs k hk q))⟩
theorem Only.own {S : Nat → Prop} {w w' : World} {base n size : Nat} {e : TypeId} {v : Value} {xs : List Value} (h : Only S w w') (ho : w.ownsRow base e size v n xs) (hs : ∀ k, v.ownBlock = some k → ¬ S k) : w'.ownsRow base e size v n xs := by
  refine ⟨ho.1, ?_⟩
  rcases ho.2 with q | ⟨g, cap, cur, h1, h2, h3, h4⟩
  · exact .inl q
  · have hlt : g < w.heap.size := by
      rcases Nat.lt_or_ge g w.heap.size with q | q
      · exact q
      · rw [Array.getElem?_eq_none (by exact q)] at h3; cases h3
    exact .inr ⟨g, cap, cur, h1, h2, (h.block g hlt (hs g (by rw [h1]; rfl))).trans h3, h4⟩
theorem ltRow {w : World} {base : Nat} {e : TypeId} {v : Value} {L : List LtM} (h : w.ownsRow base e 7 v L.length (ltsC L)) {i : Nat} (hi : i < L.length) :
    ∃ g cap, v = .slice (some ⟨g, 0, none⟩) L.length cap ∧ base ≤ g ∧ w.cell? ⟨g, i * 7, none⟩ = some (.string (str (L.getD i ltZ).bytes)) ∧ w.cell? ⟨g, i * 7 + 1, none⟩ = some (.string (str (L.getD i ltZ).text)) ∧ w.cell? ⟨g, i * 7 + 2, none⟩ = some (.int .i64 ((L.getD i ltZ).step : Int)) ∧ w.cell? ⟨g, i * 7 + 6, none⟩ = some (.bool (L.getD i ltZ).out) ∧ ∀ j, w.frozen? ⟨g, j, none⟩ = false := by
  obtain ⟨g, cap, hv⟩ : ∃ g cap, v = .slice (some ⟨g, 0, none⟩) L.length cap := by
    rcases h.2 with ⟨_, q⟩ | ⟨g, cap, _, h1, _⟩
    · omega
    · exact ⟨g, cap, h1⟩
  subst hv; have hb := (h.lt g rfl).1
  have hc : ∀ j, j < 7 → w.cell? ⟨g, i * 7 + j, none⟩ = (ltC (L.getD i ltZ))[j]? := fun j hj => by
    rw [h.cellAt (i * 7 + j) (by omega), ltsC_at L i hi j hj]
  exact ⟨g, cap, rfl, hb, hc 0 (by omega), hc 1 (by omega), hc 2 (by omega), hc 6 (by omega), fun j => h.frozenAt j⟩
theorem ltForm {w : World} {base : Nat} {e : TypeId} {v : Value} {L : List LtM} (h : w.ownsRow base e 7 v L.length (ltsC L)) : ∃ a c, v = .slice a L.length c := by
  rcases h.2 with ⟨q, q2⟩ | ⟨g, cap, _, h1, _⟩
  · exact ⟨none, 0, by rw [q, q2]⟩
  · exact ⟨_, _, h1⟩
set_option linter.unusedSimpArgs false
def onB (who : Int) : Prop := bits .and .i64 who 1 = 1
instance (who : Int) : Decidable (onB who) := inferInstanceAs (Decidable (_ = _))
end Go.Proofs.Ytabpkohcimiceab
