import Derived.Test.YtabpkohcimiceabGreatAllA
import Derived.Handy
namespace Go.Proofs.YtabpkohcimiceabGreat
open Go.RowKit
set_option linter.unusedVariables false
set_option linter.unusedSimpArgs false

/-- The letters of a World: a row of texts. -/
def txts (L : List ByteArray) : List Value := L.map .string
theorem txts_at (L : List ByteArray) (i : Nat) (h : i < L.length) : (txts L)[i]? = some (.string L[i]) := by
  rw [txts, List.getElem?_map, List.getElem?_eq_getElem h]; rfl
theorem txtRow {w : World} {base : Nat} {e : TypeId} {v : Value} {L : List ByteArray} (h : w.ownsRow base e 1 v L.length (txts L)) {i : Nat} (hi : i < L.length) :
    ∃ g cap, v = .slice (some ⟨g, 0, none⟩) L.length cap ∧ base ≤ g ∧ w.cell? ⟨g, i, none⟩ = some (.string L[i]) := by
  obtain ⟨g, cap, hv⟩ : ∃ g cap, v = .slice (some ⟨g, 0, none⟩) L.length cap := by
    rcases h.2 with ⟨_, q⟩ | ⟨g, cap, _, h1, _⟩
    · omega
    · exact ⟨g, cap, h1⟩
  subst hv
  exact ⟨g, cap, rfl, (h.lt g rfl).1, by rw [h.cellAt i (by omega), txts_at L i hi]⟩
theorem txtForm {w : World} {base : Nat} {e : TypeId} {v : Value} {L : List ByteArray} (h : w.ownsRow base e 1 v L.length (txts L)) : ∃ a c, v = .slice a L.length c := by
  rcases h.2 with ⟨q, q2⟩ | ⟨g, cap, _, h1, _⟩
  · exact ⟨none, 0, by rw [q, q2]⟩
  · exact ⟨_, _, h1⟩
def setA (A : ByteArray) (who : Int) (x : ByteArray) : ByteArray := if onB who then A else x
def setB (B : ByteArray) (who : Int) (x : ByteArray) : ByteArray := if onB who then x else B

set_option maxRecDepth 100000 in
set_option maxHeartbeats 400000 in
theorem wSet_any (G : Nat) (A B x : ByteArray) (v : Value) (who : Int) (w : World) (hG : w.heap[G]? = some (.cells #[.string A, .string B, v] 26)) :
    Calls Tryz.prog 18 #[.pointer (some ⟨G, 0, none⟩), .int .i64 who, .string x] w fun e w' => e = .returned (.tuple #[]) ∧ w'.heap[G]? = some (.cells #[.string (setA A who x), .string (setB B who x), v] 26) ∧ Only (fun b => b = G) w w' := by
  have k0 : w.cell? ⟨G, 0, none⟩ = some (.string A) := cell_of_row w _ 0 _ _ _ hG
  have k1 : w.cell? ⟨G, 1, none⟩ = some (.string B) := cell_of_row w _ 1 _ _ _ hG
  have fG : ∀ j, w.frozen? ⟨G, j, none⟩ = false := fun j => frozen_of_row w _ j _ _ hG
  have HG : Hid (w.heap[G]? = some (.cells #[.string A, .string B, v] 26)) := hG
  by_cases h : onB who
  · rw [setA, setB, if_pos h, if_pos h]
    unfold onB at h
    clear hG
    go_enter Tryz.func18, Tryz.ntmps18
    go_wp2
    go_returns
    exact ⟨rfl, heap_setCell_same _ _ _ _ _ _ HG.out, Only.set (S := fun b => b = G) (Only.refl _ _) rfl _⟩
  · rw [setA, setB, if_neg h, if_neg h]
    unfold onB at h
    clear hG
    go_enter Tryz.func18, Tryz.ntmps18
    go_wp2
    go_returns
    exact ⟨rfl, heap_setCell_same _ _ _ _ _ _ HG.out, Only.set (S := fun b => b = G) (Only.refl _ _) rfl _⟩

set_option maxRecDepth 100000 in
set_option maxHeartbeats 400000 in
theorem wLast_any (G base : Nat) (A B : ByteArray) (v : Value) (L : List ByteArray) (w : World) (hG : w.heap[G]? = some (.cells #[.string A, .string B, v] 26)) (hr : w.ownsRow base 9 1 v L.length (txts L)) (hl : L.length ≤ maxLen) (hs : ∀ x ∈ L, x.size ≤ maxLen) :
    Calls Tryz.prog 17 #[.pointer (some ⟨G, 0, none⟩)] w fun e w' => (∃ x : ByteArray, e = .returned (.string x) ∧ x.size ≤ maxLen) ∧ Below w.heap.size w w' := by
  obtain ⟨a, c, hv⟩ := txtForm hr
  subst hv
  have k2 : w.cell? ⟨G, 2, none⟩ = some (.slice a L.length c) := cell_of_row w _ 2 _ _ _ hG
  by_cases h0 : L.length = 0
  · have i0 : ((L.length : Int) == 0) = true := by rw [beq_iff_eq]; omega
    clear hG hr
    go_enter Tryz.func17, Tryz.ntmps17
    go_wp2
    go_ret
    exact ⟨⟨_, rfl, by decide⟩, Below.refl _ _⟩
  · obtain ⟨g, cap, hv, hgb, z⟩ := txtRow hr (i := L.length - 1) (by omega)
    injection hv with x1 x2 x3
    subst x1 x3
    have i0 : ((L.length : Int) == 0) = false := by rw [beq_eq_false_iff_ne]; omega
    have HX : Hid ((L[L.length - 1]'(by omega)).size ≤ maxLen) := hs _ (List.getElem_mem _)
    unfold maxLen at hl
    have i1 : (0 : Int) ≤ (L.length : Int) - 1 := by omega
    have i2 : (L.length : Int) - 1 < (L.length : Int) := by omega
    have i3 : ((L.length : Int) - 1).toNat = L.length - 1 := by omega
    have i4 : IntKind.i64.wrap ((L.length : Int) - 1) = (L.length : Int) - 1 := by rw [IntKind.wrap_i64]; omega
    generalize (L[L.length - 1]'(by omega)) = lx at *
    clear hG hr hs
    go_enter Tryz.func17, Tryz.ntmps17
    go_upto_region 3 with fail
    go_quiet (fail)
    go_wp2
    go_ret
    exact ⟨⟨lx, rfl, HX.out⟩, ⟨rfl, rfl, rfl, Nat.le_refl _, fun _ _ => rfl⟩⟩

set_option maxRecDepth 100000 in
set_option maxHeartbeats 400000 in
theorem wLetter_any (G base : Nat) (A B : ByteArray) (v : Value) (L : List ByteArray) (c : Int) (w : World) (hc : -9223372036854775808 ≤ c ∧ c ≤ 9223372036854775807) (hG : w.heap[G]? = some (.cells #[.string A, .string B, v] 26)) (hr : w.ownsRow base 9 1 v L.length (txts L)) (hl : L.length ≤ maxLen) (hs : ∀ x ∈ L, x.size ≤ maxLen) :
    Calls Tryz.prog 9 #[.pointer (some ⟨G, 0, none⟩), .int .i64 c] w fun e w' => (∃ x : ByteArray, e = .returned (.string x) ∧ x.size ≤ maxLen) ∧ Below w.heap.size w w' := by
  obtain ⟨a, cc, hv⟩ := txtForm hr
  subst hv
  have k2 : w.cell? ⟨G, 2, none⟩ = some (.slice a L.length cc) := cell_of_row w _ 2 _ _ _ hG
  by_cases h0 : L.length = 0
  · have i0 : ((L.length : Int) == 0) = true := by rw [beq_iff_eq]; omega
    clear hG hr
    go_enter Tryz.func9, Tryz.ntmps9
    go_wp2
    go_ret
    exact ⟨⟨_, rfl, by decide⟩, Below.refl _ _⟩
  · unfold maxLen at hl
    obtain ⟨b0, b1⟩ := pickN_bd c (L.length : Int) (by omega)
    have c1 := fun w => lawPick_any c (L.length : Int) w hc.1 hc.2 (by omega) (by omega)
    obtain ⟨i, hi⟩ := Int.eq_ofNat_of_zero_le b0
    rw [hi] at c1 b1
    have hiL : i < L.length := by omega
    obtain ⟨g, cap, hv, hgb, z⟩ := txtRow hr hiL
    injection hv with x1 x2 x3
    subst x1 x3
    have i0 : ((L.length : Int) == 0) = false := by rw [beq_eq_false_iff_ne]; omega
    have HX : Hid (L[i].size ≤ maxLen) := hs _ (List.getElem_mem _)
    have i1 : (0 : Int) ≤ (i : Int) := by omega
    generalize L[i] = lx at *
    clear hG hr hs hi
    go_enter Tryz.func9, Tryz.ntmps9
    go_upto_region 3 with fail
    go_quiet (first | (go_at_call 20; exact Calls.quiet_of_same (c1 _)))
    go_wp2
    go_ret
    exact ⟨⟨lx, rfl, HX.out⟩, ⟨rfl, rfl, rfl, Nat.le_refl _, fun _ _ => rfl⟩⟩

set_option maxRecDepth 100000 in
set_option maxHeartbeats 400000 in
theorem lawHead_any (t : ByteArray) (w : World) (ht : t.size ≤ maxLen) :
    Calls Tryz.prog 16 #[.string t] w fun e w' => (∃ x : ByteArray, e = .returned (.string x) ∧ x.size ≤ maxLen) ∧ w' = w := by
  by_cases h : (t.size : Int) < 7
  · go_enter Tryz.func16, Tryz.ntmps16
    go_wp2
    go_ret
    exact ⟨⟨t, rfl, ht⟩, rfl⟩
  · have h7 : (7 : Int) ≤ (t.size : Int) := by omega
    have HT : Hid (t.size ≤ maxLen) := ht
    clear ht
    go_enter Tryz.func16, Tryz.ntmps16
    go_wp2
    go_ret
    refine ⟨⟨_, rfl, ?_⟩, rfl⟩
    have := HT.out
    rw [ByteArray.size_extract]; omega
end Go.Proofs.YtabpkohcimiceabGreat
