import Derived.Test.YtabpkohcimiceabBookX
import Derived.Test.YtabpkohcimiceabAgrX
namespace Go.Proofs.Ytabpkohcimiceab
set_option maxRecDepth 100000
set_option maxHeartbeats 1000000
open Go.RowKit
set_option linter.unusedVariables false
set_option linter.unusedSimpArgs false
theorem store10 {w : World} {b : Nat} {T : TypeId} {v0 v1 v2 v3 v4 v5 v6 v7 v8 v9 : Value} (h : w.heap[b]? = some (.cells #[v0, v1, v2, v3, v4, v5, v6, v7, v8, v9] T)) (x0 x1 x2 x3 x4 x5 x6 x7 x8 x9 : Value) : ∃ w', w' = ((((((((((w.setCell ⟨b, 0, none⟩ (x0)).setCell ⟨b, 1, none⟩ (x1)).setCell ⟨b, 2, none⟩ (x2)).setCell ⟨b, 3, none⟩ (x3)).setCell ⟨b, 4, none⟩ (x4)).setCell ⟨b, 5, none⟩ (x5)).setCell ⟨b, 6, none⟩ (x6)).setCell ⟨b, 7, none⟩ (x7)).setCell ⟨b, 8, none⟩ (x8)).setCell ⟨b, 9, none⟩ (x9)) ∧ w'.heap[b]? = some (.cells #[x0, x1, x2, x3, x4, x5, x6, x7, x8, x9] T) ∧ Only (fun k => k = b) w w' := by
  refine ⟨_, rfl, ?_, ?_⟩
  · have h0 : (w.setCell ⟨b, 0, none⟩ x0).heap[b]? = some (.cells #[x0, v1, v2, v3, v4, v5, v6, v7, v8, v9] T) := heap_setCell_same _ _ _ _ _ _ h
    generalize (w.setCell ⟨b, 0, none⟩ x0) = w0 at h0 ⊢
    have h1 : (w0.setCell ⟨b, 1, none⟩ x1).heap[b]? = some (.cells #[x0, x1, v2, v3, v4, v5, v6, v7, v8, v9] T) := heap_setCell_same _ _ _ _ _ _ h0
    generalize (w0.setCell ⟨b, 1, none⟩ x1) = w1 at h1 ⊢
    have h2 : (w1.setCell ⟨b, 2, none⟩ x2).heap[b]? = some (.cells #[x0, x1, x2, v3, v4, v5, v6, v7, v8, v9] T) := heap_setCell_same _ _ _ _ _ _ h1
    generalize (w1.setCell ⟨b, 2, none⟩ x2) = w2 at h2 ⊢
    have h3 : (w2.setCell ⟨b, 3, none⟩ x3).heap[b]? = some (.cells #[x0, x1, x2, x3, v4, v5, v6, v7, v8, v9] T) := heap_setCell_same _ _ _ _ _ _ h2
    generalize (w2.setCell ⟨b, 3, none⟩ x3) = w3 at h3 ⊢
    have h4 : (w3.setCell ⟨b, 4, none⟩ x4).heap[b]? = some (.cells #[x0, x1, x2, x3, x4, v5, v6, v7, v8, v9] T) := heap_setCell_same _ _ _ _ _ _ h3
    generalize (w3.setCell ⟨b, 4, none⟩ x4) = w4 at h4 ⊢
    have h5 : (w4.setCell ⟨b, 5, none⟩ x5).heap[b]? = some (.cells #[x0, x1, x2, x3, x4, x5, v6, v7, v8, v9] T) := heap_setCell_same _ _ _ _ _ _ h4
    generalize (w4.setCell ⟨b, 5, none⟩ x5) = w5 at h5 ⊢
    have h6 : (w5.setCell ⟨b, 6, none⟩ x6).heap[b]? = some (.cells #[x0, x1, x2, x3, x4, x5, x6, v7, v8, v9] T) := heap_setCell_same _ _ _ _ _ _ h5
    generalize (w5.setCell ⟨b, 6, none⟩ x6) = w6 at h6 ⊢
    have h7 : (w6.setCell ⟨b, 7, none⟩ x7).heap[b]? = some (.cells #[x0, x1, x2, x3, x4, x5, x6, x7, v8, v9] T) := heap_setCell_same _ _ _ _ _ _ h6
    generalize (w6.setCell ⟨b, 7, none⟩ x7) = w7 at h7 ⊢
    have h8 : (w7.setCell ⟨b, 8, none⟩ x8).heap[b]? = some (.cells #[x0, x1, x2, x3, x4, x5, x6, x7, x8, v9] T) := heap_setCell_same _ _ _ _ _ _ h7
    generalize (w7.setCell ⟨b, 8, none⟩ x8) = w8 at h8 ⊢
    have h9 : (w8.setCell ⟨b, 9, none⟩ x9).heap[b]? = some (.cells #[x0, x1, x2, x3, x4, x5, x6, x7, x8, x9] T) := heap_setCell_same _ _ _ _ _ _ h8; exact h9
  · refine Only.set (S := fun k => k = b) (Only.set (S := fun k => k = b) (Only.set (S := fun k => k = b) (Only.set (S := fun k => k = b) (Only.set (S := fun k => k = b) (Only.set (S := fun k => k = b) (Only.set (S := fun k => k = b) (Only.set (S := fun k => k = b) (Only.set (S := fun k => k = b) (Only.set (S := fun k => k = b) (Only.refl _ _) rfl _) rfl _) rfl _) rfl _) rfl _) rfl _) rfl _) rfl _) rfl _) rfl _
theorem storeP {w : World} {b : Nat} {T : TypeId} {d v0 v1 v2 v3 v4 v5 v6 v7 v8 v9 L : Value} (h : w.heap[b]? = some (.cells #[d, v0, v1, v2, v3, v4, v5, v6, v7, v8, v9, L] T)) (x0 x1 x2 x3 x4 x5 x6 x7 x8 x9 : Value) : ∃ w', w' = ((((((((((w.setCell ⟨b, 1, none⟩ (x0)).setCell ⟨b, 2, none⟩ (x1)).setCell ⟨b, 3, none⟩ (x2)).setCell ⟨b, 4, none⟩ (x3)).setCell ⟨b, 5, none⟩ (x4)).setCell ⟨b, 6, none⟩ (x5)).setCell ⟨b, 7, none⟩ (x6)).setCell ⟨b, 8, none⟩ (x7)).setCell ⟨b, 9, none⟩ (x8)).setCell ⟨b, 10, none⟩ (x9)) ∧ w'.heap[b]? = some (.cells #[d, x0, x1, x2, x3, x4, x5, x6, x7, x8, x9, L] T) ∧ Only (fun k => k = b) w w' := by
  refine ⟨_, rfl, ?_, ?_⟩
  · have h0 : (w.setCell ⟨b, 1, none⟩ x0).heap[b]? = some (.cells #[d, x0, v1, v2, v3, v4, v5, v6, v7, v8, v9, L] T) := heap_setCell_same _ _ _ _ _ _ h
    generalize (w.setCell ⟨b, 1, none⟩ x0) = w0 at h0 ⊢
    have h1 : (w0.setCell ⟨b, 2, none⟩ x1).heap[b]? = some (.cells #[d, x0, x1, v2, v3, v4, v5, v6, v7, v8, v9, L] T) := heap_setCell_same _ _ _ _ _ _ h0
    generalize (w0.setCell ⟨b, 2, none⟩ x1) = w1 at h1 ⊢
    have h2 : (w1.setCell ⟨b, 3, none⟩ x2).heap[b]? = some (.cells #[d, x0, x1, x2, v3, v4, v5, v6, v7, v8, v9, L] T) := heap_setCell_same _ _ _ _ _ _ h1
    generalize (w1.setCell ⟨b, 3, none⟩ x2) = w2 at h2 ⊢
    have h3 : (w2.setCell ⟨b, 4, none⟩ x3).heap[b]? = some (.cells #[d, x0, x1, x2, x3, v4, v5, v6, v7, v8, v9, L] T) := heap_setCell_same _ _ _ _ _ _ h2
    generalize (w2.setCell ⟨b, 4, none⟩ x3) = w3 at h3 ⊢
    have h4 : (w3.setCell ⟨b, 5, none⟩ x4).heap[b]? = some (.cells #[d, x0, x1, x2, x3, x4, v5, v6, v7, v8, v9, L] T) := heap_setCell_same _ _ _ _ _ _ h3
    generalize (w3.setCell ⟨b, 5, none⟩ x4) = w4 at h4 ⊢
    have h5 : (w4.setCell ⟨b, 6, none⟩ x5).heap[b]? = some (.cells #[d, x0, x1, x2, x3, x4, x5, v6, v7, v8, v9, L] T) := heap_setCell_same _ _ _ _ _ _ h4
    generalize (w4.setCell ⟨b, 6, none⟩ x5) = w5 at h5 ⊢
    have h6 : (w5.setCell ⟨b, 7, none⟩ x6).heap[b]? = some (.cells #[d, x0, x1, x2, x3, x4, x5, x6, v7, v8, v9, L] T) := heap_setCell_same _ _ _ _ _ _ h5
    generalize (w5.setCell ⟨b, 7, none⟩ x6) = w6 at h6 ⊢
    have h7 : (w6.setCell ⟨b, 8, none⟩ x7).heap[b]? = some (.cells #[d, x0, x1, x2, x3, x4, x5, x6, x7, v8, v9, L] T) := heap_setCell_same _ _ _ _ _ _ h6
    generalize (w6.setCell ⟨b, 8, none⟩ x7) = w7 at h7 ⊢
    have h8 : (w7.setCell ⟨b, 9, none⟩ x8).heap[b]? = some (.cells #[d, x0, x1, x2, x3, x4, x5, x6, x7, x8, v9, L] T) := heap_setCell_same _ _ _ _ _ _ h7
    generalize (w7.setCell ⟨b, 9, none⟩ x8) = w8 at h8 ⊢
    have h9 : (w8.setCell ⟨b, 10, none⟩ x9).heap[b]? = some (.cells #[d, x0, x1, x2, x3, x4, x5, x6, x7, x8, x9, L] T) := heap_setCell_same _ _ _ _ _ _ h8; exact h9
  · refine Only.set (S := fun k => k = b) (Only.set (S := fun k => k = b) (Only.set (S := fun k => k = b) (Only.set (S := fun k => k = b) (Only.set (S := fun k => k = b) (Only.set (S := fun k => k = b) (Only.set (S := fun k => k = b) (Only.set (S := fun k => k = b) (Only.set (S := fun k => k = b) (Only.set (S := fun k => k = b) (Only.refl _ _) rfl _) rfl _) rfl _) rfl _) rfl _) rfl _) rfl _) rfl _) rfl _) rfl _
theorem IdsAt.congr {w : World} {v : Value} {l m : List EntM} (h : IdsAt w v l) (hl : m.length = l.length) (he : ∀ i, i < l.length → (m.getD i default).step = (l.getD i default).step ∧ (m.getD i default).count = (l.getD i default).count) : IdsAt w v m := by
  rcases h with ⟨h1, a, c, h2⟩ | ⟨b, off, cap, h1, h2, h3, h4, h5⟩
  · left
    refine ⟨List.length_eq_zero_iff.1 (by rw [hl, h1]; rfl), a, c, h2⟩
  · refine .inr ⟨b, off, cap, by rw [hl]; exact h1, by rw [hl]; exact h2, h3, h4, fun i hi => ?_⟩
    rw [hl] at hi
    obtain ⟨e1, e2⟩ := he i hi; rw [e1, e2]; exact h5 i hi
theorem idSpan_at (k : List UInt8) (st due : Nat) : ∀ n i, i < n → ((spanL k st due n).getD i default).step = ((idSpan st due n).getD i default).step ∧ ((spanL k st due n).getD i default).count = ((idSpan st due n).getD i default).count
  | 0, i, h => by omega
  | n + 1, i, h => by
    rw [spanL, idSpan]; have l1 := spanL_length k st due n; have l2 := idSpan_length st due n
    by_cases q : i < n
    · rw [List.getD_eq_getElem?_getD, List.getD_eq_getElem?_getD, List.getElem?_append_left (by omega), List.getElem?_append_left (by omega), ← List.getD_eq_getElem?_getD, ← List.getD_eq_getElem?_getD]
      exact idSpan_at k st due n i q
    · obtain rfl : i = n := by omega
      rw [List.getD_eq_getElem?_getD, List.getD_eq_getElem?_getD, List.getElem?_append_right (by omega), List.getElem?_append_right (by omega), l1, l2, Nat.sub_self]
      exact ⟨rfl, rfl⟩
theorem ids_span {w : World} {a : Option Addr} {c : Nat} {l : List EntM} (k : List UInt8) {st due n : Nat} (h : IdsAt w (.slice a (addIds l st due n).length c) (addIds l st due n)) : IdsAt w (.slice a (l ++ spanL k st due n).length c) (l ++ spanL k st due n) := by
  rw [addIds] at h
  have l1 := spanL_length k st due n; have l2 := idSpan_length st due n
  have e : (l ++ spanL k st due n).length = (l ++ idSpan st due n).length := by rw [List.length_append, List.length_append, l1, l2]
  rw [e]
  refine h.congr e (fun i hi => ?_)
  rw [List.length_append, l2] at hi
  by_cases q : i < l.length
  · rw [List.getD_eq_getElem?_getD, List.getD_eq_getElem?_getD, List.getElem?_append_left q, List.getElem?_append_left q]
    exact ⟨rfl, rfl⟩
  · rw [List.getD_eq_getElem?_getD, List.getD_eq_getElem?_getD, List.getElem?_append_right (by omega), List.getElem?_append_right (by omega), ← List.getD_eq_getElem?_getD, ← List.getD_eq_getElem?_getD]
    exact idSpan_at k st due n _ (by omega)
theorem IdsAt.drop {w : World} {b off n c : Nat} {l : List EntM} (h : IdsAt w (.slice (some ⟨b, off, none⟩) l.length c) l) (hn : n ≤ l.length) (hl : 0 < l.length) : IdsAt w (.slice (some ⟨b, off + n * 2, none⟩) (l.length - n) (c - n)) (l.drop n) := by
  rcases h with ⟨h1, a, c, h2⟩ | ⟨b', off', cap, h1, h2, h3, h4, h5⟩
  · rw [h1] at hl; simp at hl
  · injection h1 with x1 x2 x3
    injection x1 with x1
    injection x1 with x1 x4 x5
    subst x1 x4 x3
    refine .inr ⟨b, off + n * 2, c - n, by rw [List.length_drop], by rw [List.length_drop]; omega, by omega, h4, fun i hi => ?_⟩
    rw [List.length_drop] at hi
    have := h5 (n + i) (by omega)
    rw [List.getD_eq_getElem?_getD, List.getElem?_drop, ← List.getD_eq_getElem?_getD, show off + n * 2 + i * 2 = off + (n + i) * 2 by omega]
    exact this
theorem ofL_none {l : List EntM} {st : Nat} (h : ∀ e ∈ l, e.step ≠ st) : ofL l st = 0 := by
  rw [ofL, List.length_eq_zero_iff, List.filter_eq_nil_iff]
  intro e he q
  exact h e he (by simpa using q)
theorem ofL_skip {l : List EntM} {k : Nat} (h : ∀ e ∈ l, ofL l e.step ≤ k) (st : Nat) : ofL l st ≤ k := by
  by_cases q : ∀ e ∈ l, e.step ≠ st
  · rw [ofL_none q]; omega
  · obtain ⟨e, he⟩ := Classical.not_forall.1 q; obtain ⟨h1, h2⟩ := Classical.not_imp.1 he
    have := h e h1
    rw [Classical.not_not.1 h2] at this
    exact this
def bookC (s : StM) (pe : Int) (v : Value) : Array Value := #[.int .i64 s.role, .int .i64 s.step, .int .i64 s.sent, .int .i64 s.got, .int .i64 s.prev, .int .i64 s.skip, .int .i64 s.cap, .int .i64 s.secret, .int .i64 pe, v]
def BookOut (b : Nat) (s : StM) (pe : Int) (v : Value) (R : Int × List UInt8 × StM) (pe' : Int) (w' : World) (e : Ending) : Prop :=
  (R.1 ≠ 0 ∧ e = .returned (.tuple #[.agg (bookC s pe v), .int .i64 R.1])) ∨ (R.1 = 0 ∧ ∃ (yv : Option Addr) (yc : Nat), e = .returned (.tuple #[.agg (bookC (capS R.2.2) pe' (.slice yv (capS R.2.2).kept.length yc)), .int .i64 0]) ∧ IdsAt w' (.slice yv (capS R.2.2).kept.length yc) (capS R.2.2).kept ∧ FreshV b (.slice yv (capS R.2.2).kept.length yc))
theorem mt_gone (s : StM) (pe : Int) (aa : Option Addr) (cc : Nat) (l : LtM) (pub dn : Nat) (w : World) (hv : IdsAt w (.slice aa s.kept.length cc) s.kept) (hq : LawQ s) (hkc : s.kept.length ≤ s.cap) (hf : ¬ (s.step + 1 < l.step ∨ l.step % 2 = s.step % 2)) (h1 : 1 ≤ l.step) (hc : l.count ≤ 49) (hp : l.prev ≤ 50) (ho : l.step + 1 < s.step ∨ (l.step + 1 = s.step ∧ l.count < s.got)) (hn : s.kept.find? (isEnt l.step l.count) = none) :
    Calls Try.prog 31 #[.agg #[.int .i64 s.role, .int .i64 s.step, .int .i64 s.sent, .int .i64 s.got, .int .i64 s.prev, .int .i64 s.skip, .int .i64 s.cap, .int .i64 s.secret, .int .i64 pe, .slice aa s.kept.length cc], .agg #[.string (str l.bytes), .string (str l.text), .int .i64 l.step, .int .i64 l.count, .int .i64 l.prev, .int .i64 l.secret, .bool l.out], .int .i64 dn] w fun e w' => BookOut w.heap.size s pe (.slice aa s.kept.length cc) (keyR s (letQ l.step l.count l.prev pub) dn) pe w' e ∧ Below w.heap.size w w' := by
  have hst := hq.step; have hcap := hq.cap; have hgot := hq.got; have hsent := hq.sent
  have HK : Hid ((keyR s (letQ l.step l.count l.prev pub) dn).1 = 16) := by
    show _ = _
    rw [keyR, if_neg (show ¬ (s.step + 1 < (letQ l.step l.count l.prev pub).step ∨ (letQ l.step l.count l.prev pub).step % 2 = s.step % 2) from hf), if_neg (by show ¬ l.step = s.step + 1; omega), if_neg (by show ¬ (l.step + 1 = s.step ∧ s.got ≤ l.count); omega), oldR]
    show (match s.kept.find? (isEnt l.step l.count) with | none => ((16 : Int), ([] : List UInt8), s) | some e => (0, e.key, _)).1 = 16
    rw [hn]
  have ch := fun w hv => has_any s pe aa cc l w hv (by omega)
  rw [hn] at ch
  have ch' : ∀ w, IdsAt w (.slice aa s.kept.length cc) s.kept → Calls Try.prog 46 #[.agg #[.int .i64 s.role, .int .i64 s.step, .int .i64 s.sent, .int .i64 s.got, .int .i64 s.prev, .int .i64 s.skip, .int .i64 s.cap, .int .i64 s.secret, .int .i64 pe, .slice aa s.kept.length cc], .agg #[.string (str l.bytes), .string (str l.text), .int .i64 l.step, .int .i64 l.count, .int .i64 l.prev, .int .i64 l.secret, .bool l.out]] w fun e w' => e = .returned (.bool false) ∧ Below w.heap.size w w' := ch
  clear ch; have ch := ch'; clear ch'
  have io : ((l.step : Int) < (s.step : Int) - 1 ∧ decide ((l.step : Int) < (s.step : Int) - 1) = true) ∨ (decide ((l.step : Int) < (s.step : Int) - 1) = false ∧ ¬ (l.step : Int) < (s.step : Int) - 1 ∧ ((l.step : Int) == (s.step : Int) - 1) = true ∧ decide ((l.count : Int) < (s.got : Int)) = true ∧ (l.count : Int) < (s.got : Int)) := by
    simp only [decide_eq_true_eq, decide_eq_false_iff_not, beq_iff_eq]
    omega
  have wst := wrap_i64 ((s.step : Int) - 1) (by omega) (by omega)
  go_enter Try.func31, Try.ntmps31
  go_upto_region 1 with fail
  obtain ⟨wb, ewb, hB, hL, hR, hW, hlt⟩ := alloc3e w (.cells #[.int .i64 s.role, .int .i64 s.step, .int .i64 s.sent, .int .i64 s.got, .int .i64 s.prev, .int .i64 s.skip, .int .i64 s.cap, .int .i64 s.secret, .int .i64 pe, .slice aa s.kept.length cc] 38) (.cells #[.string (str l.bytes), .string (str l.text), .int .i64 l.step, .int .i64 l.count, .int .i64 l.prev, .int .i64 l.secret, .bool l.out] 63) (.cells #[.int .i64 0, .int .i64 0, .int .i64 0, .int .i64 0, .int .i64 0, .int .i64 0, .int .i64 0, .int .i64 0, .int .i64 0, .slice none 0 0] 38); rw [← ewb]; clear ewb; have HV := hid (hv.next hW); have HB := hid hB; have HL := hid hL; have HR := hid hR; have HW := hid hW; obtain ⟨k0, k1, k2, k3, k4, k5, k6, k7, k8, k9⟩ := cells10 hB; have l0 : wb.cell? ⟨w.heap.size + 1, 0, none⟩ = some (.string (str l.bytes)) := cell_of_row wb _ 0 _ _ _ hL; have l1 : wb.cell? ⟨w.heap.size + 1, 1, none⟩ = some (.string (str l.text)) := cell_of_row wb _ 1 _ _ _ hL; have l2 : wb.cell? ⟨w.heap.size + 1, 2, none⟩ = some (.int .i64 l.step) := cell_of_row wb _ 2 _ _ _ hL; have l3 : wb.cell? ⟨w.heap.size + 1, 3, none⟩ = some (.int .i64 l.count) := cell_of_row wb _ 3 _ _ _ hL; have l4 : wb.cell? ⟨w.heap.size + 1, 4, none⟩ = some (.int .i64 l.prev) := cell_of_row wb _ 4 _ _ _ hL; have l5 : wb.cell? ⟨w.heap.size + 1, 5, none⟩ = some (.int .i64 l.secret) := cell_of_row wb _ 5 _ _ _ hL; have l6 : wb.cell? ⟨w.heap.size + 1, 6, none⟩ = some (.bool l.out) := cell_of_row wb _ 6 _ _ _ hL; obtain ⟨a0, a1, a2, a3, a4, a5, a6, a7, a8, a9⟩ := cells10 hR
  have fA : ∀ j, wb.frozen? ⟨w.heap.size + 1 + 1, j, none⟩ = false := fun j => frozen_of_row wb _ j _ _ hR
  clear hB hL hR hW hv hq hf hn ho
  rcases io with ⟨i1, i2⟩ | ⟨i1, i2, i3, i4, i5⟩
  · go_upto_region 4 with (first | (go_at_call 46; go_must (with_reducible refine (ch _ HV.out).mono ?_); rintro e w2 ⟨rfl, hb2⟩))
    have hsz2 := hb2.size
    have hB2 := (hb2.block w.heap.size (by omega)).trans HB.out
    have hL2 := (hb2.block (w.heap.size + 1) (by omega)).trans HL.out
    have hR2 := (hb2.block (w.heap.size + 1 + 1) (by omega)).trans HR.out
    have HV2 := hid (HV.out.next hb2); have HW2 := hid (below_tr HW.out hb2); clear k0 k1 k2 k3 k4 k5 k6 k7 k8 k9 l0 l1 l2 l3 l4 l5 l6 a0 a1 a2 a3 a4 a5 a6 a7 a8 a9 fA hb2 ch; obtain ⟨k0, k1, k2, k3, k4, k5, k6, k7, k8, k9⟩ := cells10 hB2; have l0 : w2.cell? ⟨w.heap.size + 1, 0, none⟩ = some (.string (str l.bytes)) := cell_of_row w2 _ 0 _ _ _ hL2; have l1 : w2.cell? ⟨w.heap.size + 1, 1, none⟩ = some (.string (str l.text)) := cell_of_row w2 _ 1 _ _ _ hL2; have l2 : w2.cell? ⟨w.heap.size + 1, 2, none⟩ = some (.int .i64 l.step) := cell_of_row w2 _ 2 _ _ _ hL2; have l3 : w2.cell? ⟨w.heap.size + 1, 3, none⟩ = some (.int .i64 l.count) := cell_of_row w2 _ 3 _ _ _ hL2; have l4 : w2.cell? ⟨w.heap.size + 1, 4, none⟩ = some (.int .i64 l.prev) := cell_of_row w2 _ 4 _ _ _ hL2; have l5 : w2.cell? ⟨w.heap.size + 1, 5, none⟩ = some (.int .i64 l.secret) := cell_of_row w2 _ 5 _ _ _ hL2; have l6 : w2.cell? ⟨w.heap.size + 1, 6, none⟩ = some (.bool l.out) := cell_of_row w2 _ 6 _ _ _ hL2; obtain ⟨a0, a1, a2, a3, a4, a5, a6, a7, a8, a9⟩ := cells10 hR2
    have fA : ∀ j, w2.frozen? ⟨w.heap.size + 1 + 1, j, none⟩ = false := fun j => frozen_of_row w2 _ j _ _ hR2
    have HR2 := hid hR2; clear hB2 hL2 hR2; go_wp2
    (try simp only [Exit.inBlock, Exit.then])
    refine bodyPost_ret (v := .tuple #[.agg #[.int .i64 s.role, .int .i64 s.step, .int .i64 s.sent, .int .i64 s.got, .int .i64 s.prev, .int .i64 s.skip, .int .i64 s.cap, .int .i64 s.secret, .int .i64 pe, .slice aa s.kept.length cc], .int .i64 16]) ?_ ?_ ?_
    · rw [results_cell_tmp (fn := Try.f31) rfl]; simp [go_sem, a0, a1, a2, a3, a4, a5, a6, a7, a8, a9]
    · rfl
    · refine ⟨.inl ⟨by rw [HK.out]; simp, by rw [HK.out]; rfl⟩, ?_⟩
      repeat (with_reducible refine Below.setCell ?_ (by exact Nat.le_add_right _ 2) _)
      exact HW2.out
  · go_upto_region 4 with (first | (go_at_call 46; go_must (with_reducible refine (ch _ HV.out).mono ?_); rintro e w2 ⟨rfl, hb2⟩))
    have hsz2 := hb2.size
    have hB2 := (hb2.block w.heap.size (by omega)).trans HB.out
    have hL2 := (hb2.block (w.heap.size + 1) (by omega)).trans HL.out
    have hR2 := (hb2.block (w.heap.size + 1 + 1) (by omega)).trans HR.out
    have HV2 := hid (HV.out.next hb2); have HW2 := hid (below_tr HW.out hb2); clear k0 k1 k2 k3 k4 k5 k6 k7 k8 k9 l0 l1 l2 l3 l4 l5 l6 a0 a1 a2 a3 a4 a5 a6 a7 a8 a9 fA hb2 ch; obtain ⟨k0, k1, k2, k3, k4, k5, k6, k7, k8, k9⟩ := cells10 hB2; have l0 : w2.cell? ⟨w.heap.size + 1, 0, none⟩ = some (.string (str l.bytes)) := cell_of_row w2 _ 0 _ _ _ hL2; have l1 : w2.cell? ⟨w.heap.size + 1, 1, none⟩ = some (.string (str l.text)) := cell_of_row w2 _ 1 _ _ _ hL2; have l2 : w2.cell? ⟨w.heap.size + 1, 2, none⟩ = some (.int .i64 l.step) := cell_of_row w2 _ 2 _ _ _ hL2; have l3 : w2.cell? ⟨w.heap.size + 1, 3, none⟩ = some (.int .i64 l.count) := cell_of_row w2 _ 3 _ _ _ hL2; have l4 : w2.cell? ⟨w.heap.size + 1, 4, none⟩ = some (.int .i64 l.prev) := cell_of_row w2 _ 4 _ _ _ hL2; have l5 : w2.cell? ⟨w.heap.size + 1, 5, none⟩ = some (.int .i64 l.secret) := cell_of_row w2 _ 5 _ _ _ hL2; have l6 : w2.cell? ⟨w.heap.size + 1, 6, none⟩ = some (.bool l.out) := cell_of_row w2 _ 6 _ _ _ hL2; obtain ⟨a0, a1, a2, a3, a4, a5, a6, a7, a8, a9⟩ := cells10 hR2
    have fA : ∀ j, w2.frozen? ⟨w.heap.size + 1 + 1, j, none⟩ = false := fun j => frozen_of_row w2 _ j _ _ hR2
    have HR2 := hid hR2; clear hB2 hL2 hR2; go_wp2
    (try simp only [Exit.inBlock, Exit.then])
    refine bodyPost_ret (v := .tuple #[.agg #[.int .i64 s.role, .int .i64 s.step, .int .i64 s.sent, .int .i64 s.got, .int .i64 s.prev, .int .i64 s.skip, .int .i64 s.cap, .int .i64 s.secret, .int .i64 pe, .slice aa s.kept.length cc], .int .i64 16]) ?_ ?_ ?_
    · rw [results_cell_tmp (fn := Try.f31) rfl]; simp [go_sem, a0, a1, a2, a3, a4, a5, a6, a7, a8, a9]
    · rfl
    · refine ⟨.inl ⟨by rw [HK.out]; simp, by rw [HK.out]; rfl⟩, ?_⟩
      repeat (with_reducible refine Below.setCell ?_ (by exact Nat.le_add_right _ 2) _)
      exact HW2.out
theorem mt_old (s : StM) (pe : Int) (aa : Option Addr) (cc : Nat) (l : LtM) (pub dn : Nat) (w : World) (hv : IdsAt w (.slice aa s.kept.length cc) s.kept) (hq : LawQ s) (hkc : s.kept.length ≤ s.cap) (hf : ¬ (s.step + 1 < l.step ∨ l.step % 2 = s.step % 2)) (h1 : 1 ≤ l.step) (hc : l.count ≤ 49) (hp : l.prev ≤ 50) (ho : l.step + 1 < s.step ∨ (l.step + 1 = s.step ∧ l.count < s.got)) (en : EntM) (hn : s.kept.find? (isEnt l.step l.count) = some en) :
    Calls Try.prog 31 #[.agg #[.int .i64 s.role, .int .i64 s.step, .int .i64 s.sent, .int .i64 s.got, .int .i64 s.prev, .int .i64 s.skip, .int .i64 s.cap, .int .i64 s.secret, .int .i64 pe, .slice aa s.kept.length cc], .agg #[.string (str l.bytes), .string (str l.text), .int .i64 l.step, .int .i64 l.count, .int .i64 l.prev, .int .i64 l.secret, .bool l.out], .int .i64 dn] w fun e w' => BookOut w.heap.size s pe (.slice aa s.kept.length cc) (keyR s (letQ l.step l.count l.prev pub) dn) pe w' e ∧ Below w.heap.size w w' := by
  have hst := hq.step; have hcap := hq.cap; have hgot := hq.got; have hsent := hq.sent
  have HK : Hid ((keyR s (letQ l.step l.count l.prev pub) dn).1 = 0 ∧ capS (keyR s (letQ l.step l.count l.prev pub) dn).2.2 = { s with kept := s.kept.filter fun e => !isEnt l.step l.count e }) := by
    have e : (keyR s (letQ l.step l.count l.prev pub) dn) = (0, en.key, { s with kept := s.kept.filter fun e => !isEnt l.step l.count e }) := by
      rw [keyR, if_neg (show ¬ (s.step + 1 < (letQ l.step l.count l.prev pub).step ∨ (letQ l.step l.count l.prev pub).step % 2 = s.step % 2) from hf), if_neg (by show ¬ l.step = s.step + 1; omega), if_neg (by show ¬ (l.step + 1 = s.step ∧ s.got ≤ l.count); omega), oldR]
      show (match s.kept.find? (isEnt l.step l.count) with | none => ((16 : Int), ([] : List UInt8), s) | some e => (0, e.key, { s with kept := s.kept.filter fun e => !isEnt l.step l.count e })) = _
      rw [hn]
    show _ ∧ _
    rw [e]
    refine ⟨rfl, capS_id ?_⟩
    show (s.kept.filter _).length ≤ s.cap
    have := List.length_filter_le (fun e => !isEnt l.step l.count e) s.kept
    omega
  have ch := fun w hv => has_any s pe aa cc l w hv (by omega)
  rw [hn] at ch
  have ch' : ∀ w, IdsAt w (.slice aa s.kept.length cc) s.kept → Calls Try.prog 46 #[.agg #[.int .i64 s.role, .int .i64 s.step, .int .i64 s.sent, .int .i64 s.got, .int .i64 s.prev, .int .i64 s.skip, .int .i64 s.cap, .int .i64 s.secret, .int .i64 pe, .slice aa s.kept.length cc], .agg #[.string (str l.bytes), .string (str l.text), .int .i64 l.step, .int .i64 l.count, .int .i64 l.prev, .int .i64 l.secret, .bool l.out]] w fun e w' => e = .returned (.bool true) ∧ Below w.heap.size w w' := ch
  clear ch; have ch := ch'; clear ch'
  have cw := fun w hv => bwithout_any s pe aa cc l w hv (by omega)
  have io : ((l.step : Int) < (s.step : Int) - 1 ∧ decide ((l.step : Int) < (s.step : Int) - 1) = true) ∨ (decide ((l.step : Int) < (s.step : Int) - 1) = false ∧ ¬ (l.step : Int) < (s.step : Int) - 1 ∧ ((l.step : Int) == (s.step : Int) - 1) = true ∧ decide ((l.count : Int) < (s.got : Int)) = true ∧ (l.count : Int) < (s.got : Int)) := by
    simp only [decide_eq_true_eq, decide_eq_false_iff_not, beq_iff_eq]
    omega
  have wst := wrap_i64 ((s.step : Int) - 1) (by omega) (by omega)
  go_enter Try.func31, Try.ntmps31
  go_upto_region 1 with fail
  obtain ⟨wb, ewb, hB, hL, hR, hW, hlt⟩ := alloc3e w (.cells #[.int .i64 s.role, .int .i64 s.step, .int .i64 s.sent, .int .i64 s.got, .int .i64 s.prev, .int .i64 s.skip, .int .i64 s.cap, .int .i64 s.secret, .int .i64 pe, .slice aa s.kept.length cc] 38) (.cells #[.string (str l.bytes), .string (str l.text), .int .i64 l.step, .int .i64 l.count, .int .i64 l.prev, .int .i64 l.secret, .bool l.out] 63) (.cells #[.int .i64 0, .int .i64 0, .int .i64 0, .int .i64 0, .int .i64 0, .int .i64 0, .int .i64 0, .int .i64 0, .int .i64 0, .slice none 0 0] 38); rw [← ewb]; clear ewb; have HV := hid (hv.next hW); have HB := hid hB; have HL := hid hL; have HR := hid hR; have HW := hid hW; obtain ⟨k0, k1, k2, k3, k4, k5, k6, k7, k8, k9⟩ := cells10 hB; have l0 : wb.cell? ⟨w.heap.size + 1, 0, none⟩ = some (.string (str l.bytes)) := cell_of_row wb _ 0 _ _ _ hL; have l1 : wb.cell? ⟨w.heap.size + 1, 1, none⟩ = some (.string (str l.text)) := cell_of_row wb _ 1 _ _ _ hL; have l2 : wb.cell? ⟨w.heap.size + 1, 2, none⟩ = some (.int .i64 l.step) := cell_of_row wb _ 2 _ _ _ hL; have l3 : wb.cell? ⟨w.heap.size + 1, 3, none⟩ = some (.int .i64 l.count) := cell_of_row wb _ 3 _ _ _ hL; have l4 : wb.cell? ⟨w.heap.size + 1, 4, none⟩ = some (.int .i64 l.prev) := cell_of_row wb _ 4 _ _ _ hL; have l5 : wb.cell? ⟨w.heap.size + 1, 5, none⟩ = some (.int .i64 l.secret) := cell_of_row wb _ 5 _ _ _ hL; have l6 : wb.cell? ⟨w.heap.size + 1, 6, none⟩ = some (.bool l.out) := cell_of_row wb _ 6 _ _ _ hL; obtain ⟨a0, a1, a2, a3, a4, a5, a6, a7, a8, a9⟩ := cells10 hR
  have fA : ∀ j, wb.frozen? ⟨w.heap.size + 1 + 1, j, none⟩ = false := fun j => frozen_of_row wb _ j _ _ hR
  clear hB hL hR hW hv hq hf hn ho
  rcases io with ⟨i1, i2⟩ | ⟨i1, i2, i3, i4, i5⟩
  · go_upto_region 5 with (first | (go_at_call 46; go_must (with_reducible refine (ch _ HV.out).mono ?_); rintro e w2 ⟨rfl, hb2⟩))
    have hsz2 := hb2.size
    have hB2 := (hb2.block w.heap.size (by omega)).trans HB.out
    have hL2 := (hb2.block (w.heap.size + 1) (by omega)).trans HL.out
    have hR2 := (hb2.block (w.heap.size + 1 + 1) (by omega)).trans HR.out
    have HV2 := hid (HV.out.next hb2); have HW2 := hid (below_tr HW.out hb2); clear k0 k1 k2 k3 k4 k5 k6 k7 k8 k9 l0 l1 l2 l3 l4 l5 l6 a0 a1 a2 a3 a4 a5 a6 a7 a8 a9 fA hb2 ch; obtain ⟨k0, k1, k2, k3, k4, k5, k6, k7, k8, k9⟩ := cells10 hB2; have l0 : w2.cell? ⟨w.heap.size + 1, 0, none⟩ = some (.string (str l.bytes)) := cell_of_row w2 _ 0 _ _ _ hL2; have l1 : w2.cell? ⟨w.heap.size + 1, 1, none⟩ = some (.string (str l.text)) := cell_of_row w2 _ 1 _ _ _ hL2; have l2 : w2.cell? ⟨w.heap.size + 1, 2, none⟩ = some (.int .i64 l.step) := cell_of_row w2 _ 2 _ _ _ hL2; have l3 : w2.cell? ⟨w.heap.size + 1, 3, none⟩ = some (.int .i64 l.count) := cell_of_row w2 _ 3 _ _ _ hL2; have l4 : w2.cell? ⟨w.heap.size + 1, 4, none⟩ = some (.int .i64 l.prev) := cell_of_row w2 _ 4 _ _ _ hL2; have l5 : w2.cell? ⟨w.heap.size + 1, 5, none⟩ = some (.int .i64 l.secret) := cell_of_row w2 _ 5 _ _ _ hL2; have l6 : w2.cell? ⟨w.heap.size + 1, 6, none⟩ = some (.bool l.out) := cell_of_row w2 _ 6 _ _ _ hL2; obtain ⟨a0, a1, a2, a3, a4, a5, a6, a7, a8, a9⟩ := cells10 hR2
    have fA : ∀ j, w2.frozen? ⟨w.heap.size + 1 + 1, j, none⟩ = false := fun j => frozen_of_row w2 _ j _ _ hR2
    have HR2 := hid hR2; clear hB2 hL2 hR2
    go_upto_region 6 with (first | (go_at_call 47; go_must (with_reducible refine (cw _ HV2.out).mono ?_); rintro e w3 ⟨⟨yv, yc, rfl, hI3, hF3⟩, hb3⟩))
    have hsz3 := hb3.size
    have hR3 := (Below.heap_alloc w3 (.cells #[.int .i64 s.role, .int .i64 s.step, .int .i64 s.sent, .int .i64 s.got, .int .i64 s.prev, .int .i64 s.skip, .int .i64 s.cap, .int .i64 s.secret, .int .i64 pe, .slice yv (s.kept.filter fun e => !isEnt l.step l.count e).length yc] 38) (w.heap.size + 1 + 1) (by omega)).trans ((hb3.block (w.heap.size + 1 + 1) (by omega)).trans HR2.out)
    have hT3 := heap_alloc_new w3 (.cells #[.int .i64 s.role, .int .i64 s.step, .int .i64 s.sent, .int .i64 s.got, .int .i64 s.prev, .int .i64 s.skip, .int .i64 s.cap, .int .i64 s.secret, .int .i64 pe, .slice yv (s.kept.filter fun e => !isEnt l.step l.count e).length yc] 38)
    have hA3 : Below w3.heap.size w3 (w3.alloc (.cells #[.int .i64 s.role, .int .i64 s.step, .int .i64 s.sent, .int .i64 s.got, .int .i64 s.prev, .int .i64 s.skip, .int .i64 s.cap, .int .i64 s.secret, .int .i64 pe, .slice yv (s.kept.filter fun e => !isEnt l.step l.count e).length yc] 38)) := (Below.refl _ _).alloc (Nat.le_refl _) _
    have hI4 := hI3.next hA3; have hW4 := below_tr (below_tr HW2.out hb3) hA3; have HF3 := hid hF3
    have hT0 : w.heap.size + 1 + 1 < w3.heap.size := by omega
    clear k0 k1 k2 k3 k4 k5 k6 k7 k8 k9 l0 l1 l2 l3 l4 l5 l6 a0 a1 a2 a3 a4 a5 a6 a7 a8 a9 fA hb3 cw hI3 hA3 hF3
    generalize hw4 : (w3.alloc (.cells #[.int .i64 s.role, .int .i64 s.step, .int .i64 s.sent, .int .i64 s.got, .int .i64 s.prev, .int .i64 s.skip, .int .i64 s.cap, .int .i64 s.secret, .int .i64 pe, .slice yv (s.kept.filter fun e => !isEnt l.step l.count e).length yc] 38)) = w4 at hR3 hT3 hI4 hW4 ⊢
    clear hw4; obtain ⟨y0, y1, y2, y3, y4, y5, y6, y7, y8, y9⟩ := cells10 hT3; obtain ⟨a0, a1, a2, a3, a4, a5, a6, a7, a8, a9⟩ := cells10 hR3
    have fA : ∀ j, w4.frozen? ⟨w.heap.size + 1 + 1, j, none⟩ = false := fun j => frozen_of_row w4 _ j _ _ hR3
    have HI4 := hid hI4; have HW4 := hid hW4; clear hR3 hT3 hI4 hW4; go_wp2
    (try simp only [Exit.inBlock, Exit.then])
    refine bodyPost_ret (v := .tuple #[.agg #[.int .i64 s.role, .int .i64 s.step, .int .i64 s.sent, .int .i64 s.got, .int .i64 s.prev, .int .i64 s.skip, .int .i64 s.cap, .int .i64 s.secret, .int .i64 pe, .slice yv (s.kept.filter fun e => !isEnt l.step l.count e).length yc], .int .i64 0]) ?_ ?_ ?_
    · rw [results_cell_tmp (fn := Try.f31) rfl]; simp [go_sem, a0, a1, a2, a3, a4, a5, a6, a7, a8, a9]
    · rfl
    · refine ⟨.inr ⟨by rw [HK.out.1], yv, yc, ?_, ?_, fun k hk => by rw [HK.out.2] at hk; have := HF3.out k hk; omega⟩, ?_⟩
      · rw [HK.out.2]; rfl
      · rw [HK.out.2]
        exact HI4.out.only (S := fun k => k = w.heap.size + 1 + 1) (by (repeat (first | (with_reducible refine onlyR_set ?_) | (with_reducible refine Only.drew ?_))); exact Only.refl _ _) (fun _ k hk q => by have := HF3.out k hk; omega)
      · repeat (with_reducible refine Below.setCell ?_ (by exact Nat.le_add_right _ 2) _)
        exact HW4.out
  · go_upto_region 5 with (first | (go_at_call 46; go_must (with_reducible refine (ch _ HV.out).mono ?_); rintro e w2 ⟨rfl, hb2⟩))
    have hsz2 := hb2.size
    have hB2 := (hb2.block w.heap.size (by omega)).trans HB.out
    have hL2 := (hb2.block (w.heap.size + 1) (by omega)).trans HL.out
    have hR2 := (hb2.block (w.heap.size + 1 + 1) (by omega)).trans HR.out
    have HV2 := hid (HV.out.next hb2); have HW2 := hid (below_tr HW.out hb2); clear k0 k1 k2 k3 k4 k5 k6 k7 k8 k9 l0 l1 l2 l3 l4 l5 l6 a0 a1 a2 a3 a4 a5 a6 a7 a8 a9 fA hb2 ch; obtain ⟨k0, k1, k2, k3, k4, k5, k6, k7, k8, k9⟩ := cells10 hB2; have l0 : w2.cell? ⟨w.heap.size + 1, 0, none⟩ = some (.string (str l.bytes)) := cell_of_row w2 _ 0 _ _ _ hL2; have l1 : w2.cell? ⟨w.heap.size + 1, 1, none⟩ = some (.string (str l.text)) := cell_of_row w2 _ 1 _ _ _ hL2; have l2 : w2.cell? ⟨w.heap.size + 1, 2, none⟩ = some (.int .i64 l.step) := cell_of_row w2 _ 2 _ _ _ hL2; have l3 : w2.cell? ⟨w.heap.size + 1, 3, none⟩ = some (.int .i64 l.count) := cell_of_row w2 _ 3 _ _ _ hL2; have l4 : w2.cell? ⟨w.heap.size + 1, 4, none⟩ = some (.int .i64 l.prev) := cell_of_row w2 _ 4 _ _ _ hL2; have l5 : w2.cell? ⟨w.heap.size + 1, 5, none⟩ = some (.int .i64 l.secret) := cell_of_row w2 _ 5 _ _ _ hL2; have l6 : w2.cell? ⟨w.heap.size + 1, 6, none⟩ = some (.bool l.out) := cell_of_row w2 _ 6 _ _ _ hL2; obtain ⟨a0, a1, a2, a3, a4, a5, a6, a7, a8, a9⟩ := cells10 hR2
    have fA : ∀ j, w2.frozen? ⟨w.heap.size + 1 + 1, j, none⟩ = false := fun j => frozen_of_row w2 _ j _ _ hR2
    have HR2 := hid hR2; clear hB2 hL2 hR2
    go_upto_region 6 with (first | (go_at_call 47; go_must (with_reducible refine (cw _ HV2.out).mono ?_); rintro e w3 ⟨⟨yv, yc, rfl, hI3, hF3⟩, hb3⟩))
    have hsz3 := hb3.size
    have hR3 := (Below.heap_alloc w3 (.cells #[.int .i64 s.role, .int .i64 s.step, .int .i64 s.sent, .int .i64 s.got, .int .i64 s.prev, .int .i64 s.skip, .int .i64 s.cap, .int .i64 s.secret, .int .i64 pe, .slice yv (s.kept.filter fun e => !isEnt l.step l.count e).length yc] 38) (w.heap.size + 1 + 1) (by omega)).trans ((hb3.block (w.heap.size + 1 + 1) (by omega)).trans HR2.out)
    have hT3 := heap_alloc_new w3 (.cells #[.int .i64 s.role, .int .i64 s.step, .int .i64 s.sent, .int .i64 s.got, .int .i64 s.prev, .int .i64 s.skip, .int .i64 s.cap, .int .i64 s.secret, .int .i64 pe, .slice yv (s.kept.filter fun e => !isEnt l.step l.count e).length yc] 38)
    have hA3 : Below w3.heap.size w3 (w3.alloc (.cells #[.int .i64 s.role, .int .i64 s.step, .int .i64 s.sent, .int .i64 s.got, .int .i64 s.prev, .int .i64 s.skip, .int .i64 s.cap, .int .i64 s.secret, .int .i64 pe, .slice yv (s.kept.filter fun e => !isEnt l.step l.count e).length yc] 38)) := (Below.refl _ _).alloc (Nat.le_refl _) _
    have hI4 := hI3.next hA3; have hW4 := below_tr (below_tr HW2.out hb3) hA3; have HF3 := hid hF3
    have hT0 : w.heap.size + 1 + 1 < w3.heap.size := by omega
    clear k0 k1 k2 k3 k4 k5 k6 k7 k8 k9 l0 l1 l2 l3 l4 l5 l6 a0 a1 a2 a3 a4 a5 a6 a7 a8 a9 fA hb3 cw hI3 hA3 hF3
    generalize hw4 : (w3.alloc (.cells #[.int .i64 s.role, .int .i64 s.step, .int .i64 s.sent, .int .i64 s.got, .int .i64 s.prev, .int .i64 s.skip, .int .i64 s.cap, .int .i64 s.secret, .int .i64 pe, .slice yv (s.kept.filter fun e => !isEnt l.step l.count e).length yc] 38)) = w4 at hR3 hT3 hI4 hW4 ⊢
    clear hw4; obtain ⟨y0, y1, y2, y3, y4, y5, y6, y7, y8, y9⟩ := cells10 hT3; obtain ⟨a0, a1, a2, a3, a4, a5, a6, a7, a8, a9⟩ := cells10 hR3
    have fA : ∀ j, w4.frozen? ⟨w.heap.size + 1 + 1, j, none⟩ = false := fun j => frozen_of_row w4 _ j _ _ hR3
    have HI4 := hid hI4; have HW4 := hid hW4; clear hR3 hT3 hI4 hW4; go_wp2
    (try simp only [Exit.inBlock, Exit.then])
    refine bodyPost_ret (v := .tuple #[.agg #[.int .i64 s.role, .int .i64 s.step, .int .i64 s.sent, .int .i64 s.got, .int .i64 s.prev, .int .i64 s.skip, .int .i64 s.cap, .int .i64 s.secret, .int .i64 pe, .slice yv (s.kept.filter fun e => !isEnt l.step l.count e).length yc], .int .i64 0]) ?_ ?_ ?_
    · rw [results_cell_tmp (fn := Try.f31) rfl]; simp [go_sem, a0, a1, a2, a3, a4, a5, a6, a7, a8, a9]
    · rfl
    · refine ⟨.inr ⟨by rw [HK.out.1], yv, yc, ?_, ?_, fun k hk => by rw [HK.out.2] at hk; have := HF3.out k hk; omega⟩, ?_⟩
      · rw [HK.out.2]; rfl
      · rw [HK.out.2]
        exact HI4.out.only (S := fun k => k = w.heap.size + 1 + 1) (by (repeat (first | (with_reducible refine onlyR_set ?_) | (with_reducible refine Only.drew ?_))); exact Only.refl _ _) (fun _ k hk q => by have := HF3.out k hk; omega)
      · repeat (with_reducible refine Below.setCell ?_ (by exact Nat.le_add_right _ 2) _)
        exact HW4.out
theorem passed_ok (s : StM) (pe : Int) (aa : Option Addr) (cc : Nat) (ct sp : Nat) (w : World) (hv : IdsAt w (.slice aa s.kept.length cc) s.kept) (hl : s.kept.length ≤ 200) (h1 : s.step = sp + 1) (hsb : s.step ≤ 1000) (hgb : s.got ≤ 1000) (hcb : ct ≤ 1000) (hof : ofL s.kept sp ≤ s.skip) (hb : ¬ skipBad s ct) :
    Calls Try.prog 48 #[.agg #[.int .i64 s.role, .int .i64 s.step, .int .i64 s.sent, .int .i64 s.got, .int .i64 s.prev, .int .i64 s.skip, .int .i64 s.cap, .int .i64 s.secret, .int .i64 pe, .slice aa s.kept.length cc], .int .i64 ct] w fun e w' => (∃ (yv : Option Addr) (yc : Nat), e = .returned (.tuple #[.agg #[.int .i64 s.role, .int .i64 s.step, .int .i64 s.sent, .int .i64 s.got, .int .i64 s.prev, .int .i64 s.skip, .int .i64 s.cap, .int .i64 s.secret, .int .i64 pe, .slice yv (passS s ct).kept.length yc], .bool true]) ∧ IdsAt w' (.slice yv (passS s ct).kept.length yc) (passS s ct).kept ∧ FreshV w.heap.size (.slice yv (passS s ct).kept.length yc)) ∧ Below w.heap.size w w' := by
  refine (passed_any s pe aa cc ct sp w hv hl h1 hsb hgb hcb).mono ?_
  rintro e w' ⟨⟨yv, yc, he, hI, hF⟩, hbw⟩
  have hk : (passS s ct).kept = s.kept ++ spanL s.inn sp s.got (ct - s.got) := by
    rw [passS, show s.step - 1 = sp by omega]
  have hI2 := ids_span s.inn hI
  have el : (addIds s.kept sp s.got (ct - s.got)).length = (passS s ct).kept.length := by rw [hk, addIds_length, List.length_append, spanL_length]
  have hd : decide ((ofL s.kept sp : Int) + ((ct - s.got : Nat) : Int) ≤ (s.skip : Int)) = true := by
    rw [decide_eq_true_eq]
    unfold skipBad at hb
    rw [show s.step - 1 = sp by omega] at hb
    omega
  rw [← hk] at hI2
  rw [el, hd] at he
  rw [el] at hF
  exact ⟨⟨yv, yc, he, hI2, hF⟩, hbw⟩
theorem passed_bad (s : StM) (pe : Int) (aa : Option Addr) (cc : Nat) (ct sp : Nat) (w : World) (hv : IdsAt w (.slice aa s.kept.length cc) s.kept) (hl : s.kept.length ≤ 200) (h1 : s.step = sp + 1) (hsb : s.step ≤ 1000) (hgb : s.got ≤ 1000) (hcb : ct ≤ 1000) (hb : skipBad s ct) :
    Calls Try.prog 48 #[.agg #[.int .i64 s.role, .int .i64 s.step, .int .i64 s.sent, .int .i64 s.got, .int .i64 s.prev, .int .i64 s.skip, .int .i64 s.cap, .int .i64 s.secret, .int .i64 pe, .slice aa s.kept.length cc], .int .i64 ct] w fun e w' => (∃ (yv : Option Addr) (yc : Nat), e = .returned (.tuple #[.agg #[.int .i64 s.role, .int .i64 s.step, .int .i64 s.sent, .int .i64 s.got, .int .i64 s.prev, .int .i64 s.skip, .int .i64 s.cap, .int .i64 s.secret, .int .i64 pe, .slice yv (passS s ct).kept.length yc], .bool false]) ∧ IdsAt w' (.slice yv (passS s ct).kept.length yc) (passS s ct).kept ∧ FreshV w.heap.size (.slice yv (passS s ct).kept.length yc)) ∧ Below w.heap.size w w' := by
  refine (passed_any s pe aa cc ct sp w hv hl h1 hsb hgb hcb).mono ?_
  rintro e w' ⟨⟨yv, yc, he, hI, hF⟩, hbw⟩
  have hk : (passS s ct).kept = s.kept ++ spanL s.inn sp s.got (ct - s.got) := by
    rw [passS, show s.step - 1 = sp by omega]
  have hI2 := ids_span s.inn hI
  have el : (addIds s.kept sp s.got (ct - s.got)).length = (passS s ct).kept.length := by rw [hk, addIds_length, List.length_append, spanL_length]
  have hd : decide ((ofL s.kept sp : Int) + ((ct - s.got : Nat) : Int) ≤ (s.skip : Int)) = false := by
    rw [decide_eq_false_iff_not]
    unfold skipBad at hb
    rw [show s.step - 1 = sp by omega] at hb
    omega
  rw [← hk] at hI2
  rw [el, hd] at he
  rw [el] at hF
  exact ⟨⟨yv, yc, he, hI2, hF⟩, hbw⟩
theorem mt_due (s : StM) (pe : Int) (aa : Option Addr) (cc : Nat) (l : LtM) (pub dn : Nat) (w : World) (hv : IdsAt w (.slice aa s.kept.length cc) s.kept) (hq : LawQ s) (hkc : s.kept.length ≤ s.cap) (hf : ¬ (s.step + 1 < l.step ∨ l.step % 2 = s.step % 2)) (h1 : 1 ≤ l.step) (hc : l.count ≤ 49) (hp : l.prev ≤ 50) (ho : l.step + 1 = s.step ∧ s.got ≤ l.count) :
    Calls Try.prog 31 #[.agg #[.int .i64 s.role, .int .i64 s.step, .int .i64 s.sent, .int .i64 s.got, .int .i64 s.prev, .int .i64 s.skip, .int .i64 s.cap, .int .i64 s.secret, .int .i64 pe, .slice aa s.kept.length cc], .agg #[.string (str l.bytes), .string (str l.text), .int .i64 l.step, .int .i64 l.count, .int .i64 l.prev, .int .i64 l.secret, .bool l.out], .int .i64 dn] w fun e w' => BookOut w.heap.size s pe (.slice aa s.kept.length cc) (keyR s (letQ l.step l.count l.prev pub) dn) pe w' e ∧ Below w.heap.size w w' := by
  have hst := hq.step; have hcap := hq.cap; have hgot := hq.got; have hsent := hq.sent
  have HK1 : Hid ((keyR s (letQ l.step l.count l.prev pub) dn) = dueR s l.count) := by
    show _ = _
    rw [keyR, if_neg (show ¬ (s.step + 1 < (letQ l.step l.count l.prev pub).step ∨ (letQ l.step l.count l.prev pub).step % 2 = s.step % 2) from hf), if_neg (by show ¬ l.step = s.step + 1; omega), if_pos (show (letQ l.step l.count l.prev pub).step + 1 = s.step ∧ s.got ≤ (letQ l.step l.count l.prev pub).count from ho)]
    rfl
  have HOF1 := hid (ofL_skip hq.keys.of l.step)
  have n1 : decide ((l.step : Int) < (s.step : Int) - 1) = false := by rw [decide_eq_false_iff_not]; omega
  have n1' : ¬ (l.step : Int) < (s.step : Int) - 1 := by omega
  have wst := wrap_i64 ((s.step : Int) - 1) (by omega) (by omega)
  have wst2 := wrap_i64 ((s.step : Int) + 1) (by omega) (by omega)
  have n2 : ((l.step : Int) == (s.step : Int) - 1) = true := by rw [beq_iff_eq]; omega
  have n3 : decide ((l.count : Int) < (s.got : Int)) = false := by rw [decide_eq_false_iff_not]; omega
  have n3' : ¬ (l.count : Int) < (s.got : Int) := by omega
  have n4 : ((l.step : Int) == (s.step : Int) + 1) = false := by rw [beq_eq_false_iff_ne]; omega
  go_enter Try.func31, Try.ntmps31
  go_upto_region 1 with fail
  obtain ⟨wb, ewb, hB, hL, hR, hW, hlt⟩ := alloc3e w (.cells #[.int .i64 s.role, .int .i64 s.step, .int .i64 s.sent, .int .i64 s.got, .int .i64 s.prev, .int .i64 s.skip, .int .i64 s.cap, .int .i64 s.secret, .int .i64 pe, .slice aa s.kept.length cc] 38) (.cells #[.string (str l.bytes), .string (str l.text), .int .i64 l.step, .int .i64 l.count, .int .i64 l.prev, .int .i64 l.secret, .bool l.out] 63) (.cells #[.int .i64 0, .int .i64 0, .int .i64 0, .int .i64 0, .int .i64 0, .int .i64 0, .int .i64 0, .int .i64 0, .int .i64 0, .slice none 0 0] 38); rw [← ewb]; clear ewb; have HV := hid (hv.next hW); have HB := hid hB; have HL := hid hL; have HR := hid hR; have HW := hid hW; obtain ⟨k0, k1, k2, k3, k4, k5, k6, k7, k8, k9⟩ := cells10 hB; have l0 : wb.cell? ⟨w.heap.size + 1, 0, none⟩ = some (.string (str l.bytes)) := cell_of_row wb _ 0 _ _ _ hL; have l1 : wb.cell? ⟨w.heap.size + 1, 1, none⟩ = some (.string (str l.text)) := cell_of_row wb _ 1 _ _ _ hL; have l2 : wb.cell? ⟨w.heap.size + 1, 2, none⟩ = some (.int .i64 l.step) := cell_of_row wb _ 2 _ _ _ hL; have l3 : wb.cell? ⟨w.heap.size + 1, 3, none⟩ = some (.int .i64 l.count) := cell_of_row wb _ 3 _ _ _ hL; have l4 : wb.cell? ⟨w.heap.size + 1, 4, none⟩ = some (.int .i64 l.prev) := cell_of_row wb _ 4 _ _ _ hL; have l5 : wb.cell? ⟨w.heap.size + 1, 5, none⟩ = some (.int .i64 l.secret) := cell_of_row wb _ 5 _ _ _ hL; have l6 : wb.cell? ⟨w.heap.size + 1, 6, none⟩ = some (.bool l.out) := cell_of_row wb _ 6 _ _ _ hL; obtain ⟨a0, a1, a2, a3, a4, a5, a6, a7, a8, a9⟩ := cells10 hR
  have fA : ∀ j, wb.frozen? ⟨w.heap.size + 1 + 1, j, none⟩ = false := fun j => frozen_of_row wb _ j _ _ hR
  have h200 : s.kept.length ≤ 200 := by omega
  have HS1 : Hid (s.step = l.step + 1) := by
    show _ = _
    omega
  have hg1 : s.got ≤ 1000 := by omega
  have hst1 : s.step ≤ 1000 := by omega
  clear hB hL hR hW hv hq hf ho
  go_upto_region 20 with fail
  have hT3 : (wb.alloc (.cells #[.int .i64 s.role, .int .i64 s.step, .int .i64 s.sent, .int .i64 s.got, .int .i64 s.prev, .int .i64 s.skip, .int .i64 s.cap, .int .i64 s.secret, .int .i64 pe, .slice aa s.kept.length cc] 38)).heap[w.heap.size + 1 + 1 + 1]? = some (.cells #[.int .i64 s.role, .int .i64 s.step, .int .i64 s.sent, .int .i64 s.got, .int .i64 s.prev, .int .i64 s.skip, .int .i64 s.cap, .int .i64 s.secret, .int .i64 pe, .slice aa s.kept.length cc] 38) := by
    have := heap_alloc_new wb (.cells #[.int .i64 s.role, .int .i64 s.step, .int .i64 s.sent, .int .i64 s.got, .int .i64 s.prev, .int .i64 s.skip, .int .i64 s.cap, .int .i64 s.secret, .int .i64 pe, .slice aa s.kept.length cc] 38)
    rw [hlt] at this
    exact this
  have hA3 : Below wb.heap.size wb (wb.alloc (.cells #[.int .i64 s.role, .int .i64 s.step, .int .i64 s.sent, .int .i64 s.got, .int .i64 s.prev, .int .i64 s.skip, .int .i64 s.cap, .int .i64 s.secret, .int .i64 pe, .slice aa s.kept.length cc] 38)) := (Below.refl _ _).alloc (Nat.le_refl _) _
  have hs4 : w.heap.size + 1 + 1 + 1 < (wb.alloc (.cells #[.int .i64 s.role, .int .i64 s.step, .int .i64 s.sent, .int .i64 s.got, .int .i64 s.prev, .int .i64 s.skip, .int .i64 s.cap, .int .i64 s.secret, .int .i64 pe, .slice aa s.kept.length cc] 38)).heap.size := by simp; omega
  clear k0 k1 k2 k3 k4 k5 k6 k7 k8 k9 l0 l1 l2 l3 l4 l5 l6 a0 a1 a2 a3 a4 a5 a6 a7 a8 a9 fA
  generalize (wb.alloc (.cells #[.int .i64 s.role, .int .i64 s.step, .int .i64 s.sent, .int .i64 s.got, .int .i64 s.prev, .int .i64 s.skip, .int .i64 s.cap, .int .i64 s.secret, .int .i64 pe, .slice aa s.kept.length cc] 38)) = w4 at hT3 hA3 hs4 ⊢
  have HB4 := hid ((hA3.block w.heap.size (by omega)).trans HB.out)
  have HL4 := hid ((hA3.block (w.heap.size + 1) (by omega)).trans HL.out)
  have HR4 := hid ((hA3.block (w.heap.size + 1 + 1) (by omega)).trans HR.out)
  have HW4 := hid (below_tr HW.out hA3); have HI4 := hid (HV.out.next hA3); have HT4 := hid hT3; clear hT3 hA3 HB HL HR HV; have hof1 : ofL s.kept l.step ≤ s.skip := HOF1.out; have y3l : w4.cell? ⟨w.heap.size + 1, 3, none⟩ = some (.int .i64 l.count) := cell_of_row w4 _ 3 _ _ _ HL4.out; obtain ⟨y0, y1, y2, y3, y4, y5, y6, y7, y8, y9⟩ := cells10 HT4.out
  have fT : ∀ j, w4.frozen? ⟨w.heap.size + 1 + 1 + 1, j, none⟩ = false := fun j => frozen_of_row w4 _ j _ _ HT4.out
  by_cases hbad : skipBad s l.count
  · have cp := fun w hv => passed_bad s pe aa cc l.count l.step w hv h200 HS1.out hst1 hg1 (by omega) hbad
    have HK : Hid ((keyR s (letQ l.step l.count l.prev pub) dn).1 = 17) := by
      show _ = _
      rw [HK1.out, dueR, if_pos hbad]
    clear hbad
    go_upto_region 21 with (first | (go_at_call 48; go_must (with_reducible refine (cp _ HI4.out).mono ?_); rintro e w5 ⟨⟨yv, yc, rfl, hI5, hF5⟩, hb5⟩; have hTx := (hb5.block (w.heap.size + 1 + 1 + 1) (by omega)).trans HT4.out; obtain ⟨t0, t1, t2, t3, t4, t5, t6, t7, t8, t9⟩ := cells10 hTx; have fT5 : ∀ j, w5.frozen? ⟨w.heap.size + 1 + 1 + 1, j, none⟩ = false := fun j => frozen_of_row w5 _ j _ _ hTx; clear hTx))
    have hsz5 := hb5.size
    have hT5 := (hb5.block (w.heap.size + 1 + 1 + 1) (by omega)).trans HT4.out
    have hB5 := (hb5.block w.heap.size (by omega)).trans HB4.out
    have hL5 := (hb5.block (w.heap.size + 1) (by omega)).trans HL4.out
    have hR5 := (hb5.block (w.heap.size + 1 + 1) (by omega)).trans HR4.out
    obtain ⟨w6, hw6, hX6, hN6⟩ := store10 hT5 (.int .i64 s.role) (.int .i64 s.step) (.int .i64 s.sent) (.int .i64 s.got) (.int .i64 s.prev) (.int .i64 s.skip) (.int .i64 s.cap) (.int .i64 s.secret) (.int .i64 pe) (.slice yv (passS s l.count).kept.length yc); rw [← hw6]; clear hw6; have hsz6 := hN6.size
    have hB6 := (hN6.block w.heap.size (by omega) (by omega)).trans hB5
    have hL6 := (hN6.block (w.heap.size + 1) (by omega) (by omega)).trans hL5
    have hR6 := (hN6.block (w.heap.size + 1 + 1) (by omega) (by omega)).trans hR5
    have hI6 := hI5.only hN6 (fun _ k hk q => by have := hF5 k hk; omega)
    have HW6 : Hid (Below w.heap.size w w6) := (below_tr HW4.out hb5).trans (hN6.below (by omega) (fun k q => by omega))
    have HF5 := hid hF5; clear hT5 hB5 hL5 hR5 hI5 hb5 cp y3l fT fT5 y0 y1 y2 y3 y4 y5 y6 y7 y8 y9 t0 t1 t2 t3 t4 t5 t6 t7 t8 t9 hF5; obtain ⟨k0, k1, k2, k3, k4, k5, k6, k7, k8, k9⟩ := cells10 hB6; obtain ⟨a0, a1, a2, a3, a4, a5, a6, a7, a8, a9⟩ := cells10 hR6
    have fA : ∀ j, w6.frozen? ⟨w.heap.size + 1 + 1, j, none⟩ = false := fun j => frozen_of_row w6 _ j _ _ hR6
    clear hB6 hL6 hR6 hX6 hI6 hN6; go_wp2
    (try simp only [Exit.inBlock, Exit.then])
    refine bodyPost_ret (v := .tuple #[.agg #[.int .i64 s.role, .int .i64 s.step, .int .i64 s.sent, .int .i64 s.got, .int .i64 s.prev, .int .i64 s.skip, .int .i64 s.cap, .int .i64 s.secret, .int .i64 pe, .slice aa s.kept.length cc], .int .i64 17]) ?_ ?_ ?_
    · rw [results_cell_tmp (fn := Try.f31) rfl]; simp [go_sem, a0, a1, a2, a3, a4, a5, a6, a7, a8, a9]
    · rfl
    · refine ⟨.inl ⟨by rw [HK.out]; simp, by rw [HK.out]; rfl⟩, ?_⟩
      repeat (with_reducible refine Below.setCell ?_ (by exact Nat.le_add_right _ 2) _)
      exact HW6.out
  · have cp := fun w hv => passed_ok s pe aa cc l.count l.step w hv h200 HS1.out hst1 hg1 (by omega) hof1 hbad
    have HK : Hid ((keyR s (letQ l.step l.count l.prev pub) dn).1 = 0 ∧ (keyR s (letQ l.step l.count l.prev pub) dn).2.2 = dueS s l.count) := by
      show _ ∧ _
      rw [HK1.out, dueR, if_neg hbad]; exact ⟨rfl, rfl⟩
    clear hbad
    go_upto_region 21 with (first | (go_at_call 48; go_must (with_reducible refine (cp _ HI4.out).mono ?_); rintro e w5 ⟨⟨yv, yc, rfl, hI5, hF5⟩, hb5⟩; have hTx := (hb5.block (w.heap.size + 1 + 1 + 1) (by omega)).trans HT4.out; obtain ⟨t0, t1, t2, t3, t4, t5, t6, t7, t8, t9⟩ := cells10 hTx; have fT5 : ∀ j, w5.frozen? ⟨w.heap.size + 1 + 1 + 1, j, none⟩ = false := fun j => frozen_of_row w5 _ j _ _ hTx; clear hTx))
    have hsz5 := hb5.size
    have hT5 := (hb5.block (w.heap.size + 1 + 1 + 1) (by omega)).trans HT4.out
    have hB5 := (hb5.block w.heap.size (by omega)).trans HB4.out
    have hL5 := (hb5.block (w.heap.size + 1) (by omega)).trans HL4.out
    have hR5 := (hb5.block (w.heap.size + 1 + 1) (by omega)).trans HR4.out
    obtain ⟨w6, hw6, hX6, hN6⟩ := store10 hT5 (.int .i64 s.role) (.int .i64 s.step) (.int .i64 s.sent) (.int .i64 s.got) (.int .i64 s.prev) (.int .i64 s.skip) (.int .i64 s.cap) (.int .i64 s.secret) (.int .i64 pe) (.slice yv (passS s l.count).kept.length yc); rw [← hw6]; clear hw6; have hsz6 := hN6.size
    have hB6 := (hN6.block w.heap.size (by omega) (by omega)).trans hB5
    have hL6 := (hN6.block (w.heap.size + 1) (by omega) (by omega)).trans hL5
    have hR6 := (hN6.block (w.heap.size + 1 + 1) (by omega) (by omega)).trans hR5
    have hI6 := hI5.only hN6 (fun _ k hk q => by have := hF5 k hk; omega)
    have HW6 : Hid (Below w.heap.size w w6) := (below_tr HW4.out hb5).trans (hN6.below (by omega) (fun k q => by omega))
    have HF5 := hid hF5; clear hT5 hB5 hL5 hR5 hI5 hb5 cp y3l fT fT5 y0 y1 y2 y3 y4 y5 y6 y7 y8 y9 t0 t1 t2 t3 t4 t5 t6 t7 t8 t9 hF5; have y3l : w6.cell? ⟨w.heap.size + 1, 3, none⟩ = some (.int .i64 l.count) := cell_of_row w6 _ 3 _ _ _ hL6; have y3t : w6.cell? ⟨w.heap.size + 1 + 1 + 1, 3, none⟩ = some (.int .i64 s.got) := cell_of_row w6 _ 3 _ _ _ hX6
    have fT : ∀ j, w6.frozen? ⟨w.heap.size + 1 + 1 + 1, j, none⟩ = false := fun j => frozen_of_row w6 _ j _ _ hX6
    have hwc := wrap_i64 ((l.count : Int) + 1) (by omega) (by omega)
    go_upto_region 24 with fail
    have hX7 : (w6.setCell ⟨w.heap.size + 1 + 1 + 1, 3, none⟩ (.int .i64 ((l.count : Int) + 1))).heap[w.heap.size + 1 + 1 + 1]? = some (.cells #[.int .i64 s.role, .int .i64 s.step, .int .i64 s.sent, .int .i64 ((l.count : Int) + 1), .int .i64 s.prev, .int .i64 s.skip, .int .i64 s.cap, .int .i64 s.secret, .int .i64 pe, .slice yv (passS s l.count).kept.length yc] 38) := heap_setCell_same _ _ _ _ _ _ hX6
    have hN7 : Only (fun k => k = w.heap.size + 1 + 1 + 1) w6 (w6.setCell ⟨w.heap.size + 1 + 1 + 1, 3, none⟩ (.int .i64 ((l.count : Int) + 1))) := Only.set (S := fun k => k = w.heap.size + 1 + 1 + 1) (Only.refl _ _) rfl _
    clear y3l y3t fT
    generalize (w6.setCell ⟨w.heap.size + 1 + 1 + 1, 3, none⟩ (.int .i64 ((l.count : Int) + 1))) = w7 at hX7 hN7 ⊢
    have hsz7 := hN7.size
    have hR7 := (hN7.block (w.heap.size + 1 + 1) (by omega) (by omega)).trans hR6
    have hI7 := hI6.only hN7 (fun _ k hk q => by have := HF5.out k hk; omega)
    have HW7 : Hid (Below w.heap.size w w7) := HW6.out.trans (hN7.below (by omega) (fun k q => by omega))
    have HX7 := hid hX7; have HR7 := hid hR7; clear hX6 hB6 hL6 hR6 hI6 hN6 hN7
    obtain ⟨M, hM⟩ : ∃ M, M = (passS s l.count).kept := ⟨_, rfl⟩
    have HM := hid hM
    rw [← hM] at hX7 hI7 HX7 HF5
    have hM200 : M.length ≤ 400 := by
      rw [hM]
      show (s.kept ++ spanL _ _ _ _).length ≤ 400
      rw [List.length_append, spanL_length]; omega
    clear hM; have y9 : w7.cell? ⟨w.heap.size + 1 + 1 + 1, 9, none⟩ = some (.slice yv M.length yc) := cell_of_row w7 _ 9 _ _ _ hX7; have y6 : w7.cell? ⟨w.heap.size + 1 + 1 + 1, 6, none⟩ = some (.int .i64 s.cap) := cell_of_row w7 _ 6 _ _ _ hX7; have HI7 := hid hI7
    by_cases hcp : s.cap < M.length
    · obtain ⟨gb, go, hyv, _⟩ := hI7.at (j := 0) (by omega)
      subst hyv
      have hcpi : (s.cap : Int) < (M.length : Int) := by omega
      have hdr := hI7.drop (n := M.length - s.cap) (by omega) (by omega)
      have hyc : M.length ≤ yc ∧ yc ≤ maxLen := by
        rcases hI7 with ⟨q, _⟩ | ⟨_, _, cap', q1, q2, q3, _⟩
        · rw [q] at hcp; simp at hcp
        · injection q1 with _ _ q1
          subst q1; exact ⟨q2, q3⟩
      obtain ⟨hyc1, hyc2⟩ := hyc
      unfold maxLen at hyc2
      have hw1 := wrap_i64 ((M.length : Int) - (s.cap : Int)) (by omega) (by omega)
      have e2 : ((M.length : Int) - (s.cap : Int)).toNat = M.length - s.cap := by omega
      have zz1 : (0 : Int) ≤ (M.length : Int) - (s.cap : Int) := by omega
      have zz2 : (M.length : Int) - (s.cap : Int) ≤ (M.length : Int) := by omega
      have zz3 : (M.length : Int) ≤ (yc : Int) := by omega
      have fT : ∀ j, w7.frozen? ⟨w.heap.size + 1 + 1 + 1, j, none⟩ = false := fun j => frozen_of_row w7 _ j _ _ hX7
      clear hX7 hR7 hI7
      by_cases hz : yc = M.length - s.cap
      · have HDR : Hid (IdsAt w7 (.slice (some ⟨gb, go, none⟩) 0 0) (M.drop (M.length - s.cap))) := .inl ⟨List.drop_of_length_le (by omega), some ⟨gb, go, none⟩, 0, rfl⟩
        have HZ := hid hz; subst hz; clear hdr
        go_upto_region 26 with fail
        have hX8 : (w7.setCell ⟨w.heap.size + 1 + 1 + 1, 9, none⟩ (.slice (some ⟨gb, go, none⟩) 0 0)).heap[w.heap.size + 1 + 1 + 1]? = some (.cells #[.int .i64 s.role, .int .i64 s.step, .int .i64 s.sent, .int .i64 ((l.count : Int) + 1), .int .i64 s.prev, .int .i64 s.skip, .int .i64 s.cap, .int .i64 s.secret, .int .i64 pe, .slice (some ⟨gb, go, none⟩) 0 0] 38) := heap_setCell_same _ _ _ _ _ _ HX7.out
        have hN8 : Only (fun k => k = w.heap.size + 1 + 1 + 1) w7 (w7.setCell ⟨w.heap.size + 1 + 1 + 1, 9, none⟩ (.slice (some ⟨gb, go, none⟩) 0 0)) := Only.set (S := fun k => k = w.heap.size + 1 + 1 + 1) (Only.refl _ _) rfl _
        clear y9 y6 fT
        generalize (w7.setCell ⟨w.heap.size + 1 + 1 + 1, 9, none⟩ (.slice (some ⟨gb, go, none⟩) 0 0)) = w8 at hX8 hN8 ⊢
        have hsz8 := hN8.size
        have hR8 := (hN8.block (w.heap.size + 1 + 1) (by omega) (by omega)).trans HR7.out
        have HI8 := hid (HDR.out.only hN8 (fun _ k hk q => by have := HF5.out k hk; omega))
        have HW8 : Hid (Below w.heap.size w w8) := HW7.out.trans (hN8.below (by omega) (fun k q => by omega))
        obtain ⟨y0, y1, y2, y3, y4, y5, y6, y7, y8, y9⟩ := cells10 hX8; obtain ⟨a0, a1, a2, a3, a4, a5, a6, a7, a8, a9⟩ := cells10 hR8
        have fA : ∀ j, w8.frozen? ⟨w.heap.size + 1 + 1, j, none⟩ = false := fun j => frozen_of_row w8 _ j _ _ hR8
        clear hX8 hR8 hN8; go_wp2
        (try simp only [Exit.inBlock, Exit.then])
        refine bodyPost_ret (v := .tuple #[.agg #[.int .i64 s.role, .int .i64 s.step, .int .i64 s.sent, .int .i64 ((l.count : Int) + 1), .int .i64 s.prev, .int .i64 s.skip, .int .i64 s.cap, .int .i64 s.secret, .int .i64 pe, .slice (some ⟨gb, go, none⟩) 0 0], .int .i64 0]) ?_ ?_ ?_
        · rw [results_cell_tmp (fn := Try.f31) rfl]; simp [go_sem, a0, a1, a2, a3, a4, a5, a6, a7, a8, a9]
        · rfl
        · have eM : (dueS s l.count).kept = M := HM.out.symm
          have eK : (capS (keyR s (letQ l.step l.count l.prev pub) dn).2.2).kept = M.drop (M.length - s.cap) := by
            rw [HK.out.2]
            show (dueS s l.count).kept.drop ((dueS s l.count).kept.length - (dueS s l.count).cap) = _
            rw [eM]; rfl
          have eL : (capS (keyR s (letQ l.step l.count l.prev pub) dn).2.2).kept.length = 0 := by rw [eK, List.length_drop]; omega
          have eB : ∀ v, bookC (capS (keyR s (letQ l.step l.count l.prev pub) dn).2.2) pe v = #[.int .i64 s.role, .int .i64 s.step, .int .i64 s.sent, .int .i64 ((l.count : Int) + 1), .int .i64 s.prev, .int .i64 s.skip, .int .i64 s.cap, .int .i64 s.secret, .int .i64 pe, v] := fun v => by
            rw [HK.out.2]; rfl
          refine ⟨.inr ⟨HK.out.1, some ⟨gb, go, none⟩, 0, ?_, ?_, ?_⟩, ?_⟩
          · rw [eB, eL]
          · rw [eL, eK]
            exact HI8.out.only (S := fun k => k = w.heap.size + 1 + 1) (by (repeat (first | (with_reducible refine onlyR_set ?_) | (with_reducible refine Only.drew ?_))); exact Only.refl _ _) (fun _ k hk q => by have := HF5.out k hk; omega)
          · intro k hk
            have := HF5.out k hk
            omega
          · repeat (with_reducible refine Below.setCell ?_ (by exact Nat.le_add_right _ 2) _)
            exact HW8.out
      · have HDR := hid hdr; clear hdr
        go_upto_region 26 with fail
        have hX8 : (w7.setCell ⟨w.heap.size + 1 + 1 + 1, 9, none⟩ (.slice (some ⟨gb, go + (M.length - s.cap) * 2, none⟩) (M.length - (M.length - s.cap)) (yc - (M.length - s.cap)))).heap[w.heap.size + 1 + 1 + 1]? = some (.cells #[.int .i64 s.role, .int .i64 s.step, .int .i64 s.sent, .int .i64 ((l.count : Int) + 1), .int .i64 s.prev, .int .i64 s.skip, .int .i64 s.cap, .int .i64 s.secret, .int .i64 pe, .slice (some ⟨gb, go + (M.length - s.cap) * 2, none⟩) (M.length - (M.length - s.cap)) (yc - (M.length - s.cap))] 38) := heap_setCell_same _ _ _ _ _ _ HX7.out
        have hN8 : Only (fun k => k = w.heap.size + 1 + 1 + 1) w7 (w7.setCell ⟨w.heap.size + 1 + 1 + 1, 9, none⟩ (.slice (some ⟨gb, go + (M.length - s.cap) * 2, none⟩) (M.length - (M.length - s.cap)) (yc - (M.length - s.cap)))) := Only.set (S := fun k => k = w.heap.size + 1 + 1 + 1) (Only.refl _ _) rfl _
        clear y9 y6 fT
        generalize (w7.setCell ⟨w.heap.size + 1 + 1 + 1, 9, none⟩ (.slice (some ⟨gb, go + (M.length - s.cap) * 2, none⟩) (M.length - (M.length - s.cap)) (yc - (M.length - s.cap)))) = w8 at hX8 hN8 ⊢
        have hsz8 := hN8.size
        have hR8 := (hN8.block (w.heap.size + 1 + 1) (by omega) (by omega)).trans HR7.out
        have HI8 := hid (HDR.out.only hN8 (fun _ k hk q => by have := HF5.out k hk; omega))
        have HW8 : Hid (Below w.heap.size w w8) := HW7.out.trans (hN8.below (by omega) (fun k q => by omega))
        obtain ⟨y0, y1, y2, y3, y4, y5, y6, y7, y8, y9⟩ := cells10 hX8; obtain ⟨a0, a1, a2, a3, a4, a5, a6, a7, a8, a9⟩ := cells10 hR8
        have fA : ∀ j, w8.frozen? ⟨w.heap.size + 1 + 1, j, none⟩ = false := fun j => frozen_of_row w8 _ j _ _ hR8
        clear hX8 hR8 hN8; go_wp2
        (try simp only [Exit.inBlock, Exit.then])
        refine bodyPost_ret (v := .tuple #[.agg #[.int .i64 s.role, .int .i64 s.step, .int .i64 s.sent, .int .i64 ((l.count : Int) + 1), .int .i64 s.prev, .int .i64 s.skip, .int .i64 s.cap, .int .i64 s.secret, .int .i64 pe, .slice (some ⟨gb, go + (M.length - s.cap) * 2, none⟩) (M.length - (M.length - s.cap)) (yc - (M.length - s.cap))], .int .i64 0]) ?_ ?_ ?_
        · rw [results_cell_tmp (fn := Try.f31) rfl]; simp [go_sem, a0, a1, a2, a3, a4, a5, a6, a7, a8, a9]
        · rfl
        · have eM : (dueS s l.count).kept = M := HM.out.symm
          have eK : (capS (keyR s (letQ l.step l.count l.prev pub) dn).2.2).kept = M.drop (M.length - s.cap) := by
            rw [HK.out.2]
            show (dueS s l.count).kept.drop ((dueS s l.count).kept.length - (dueS s l.count).cap) = _
            rw [eM]; rfl
          have eL : (capS (keyR s (letQ l.step l.count l.prev pub) dn).2.2).kept.length = (M.length - (M.length - s.cap)) := by rw [eK, List.length_drop]
          have eB : ∀ v, bookC (capS (keyR s (letQ l.step l.count l.prev pub) dn).2.2) pe v = #[.int .i64 s.role, .int .i64 s.step, .int .i64 s.sent, .int .i64 ((l.count : Int) + 1), .int .i64 s.prev, .int .i64 s.skip, .int .i64 s.cap, .int .i64 s.secret, .int .i64 pe, v] := fun v => by
            rw [HK.out.2]; rfl
          refine ⟨.inr ⟨HK.out.1, some ⟨gb, go + (M.length - s.cap) * 2, none⟩, (yc - (M.length - s.cap)), ?_, ?_, ?_⟩, ?_⟩
          · rw [eB, eL]
          · rw [eL, eK]
            exact HI8.out.only (S := fun k => k = w.heap.size + 1 + 1) (by (repeat (first | (with_reducible refine onlyR_set ?_) | (with_reducible refine Only.drew ?_))); exact Only.refl _ _) (fun _ k hk q => by have := HF5.out k hk; omega)
          · intro k hk
            have := HF5.out k hk
            omega
          · repeat (with_reducible refine Below.setCell ?_ (by exact Nat.le_add_right _ 2) _)
            exact HW8.out
    · have hcpi : ¬ (s.cap : Int) < (M.length : Int) := by omega
      obtain ⟨y0, y1, y2, y3, y4, y5, y6, y7, y8, y9⟩ := cells10 hX7; obtain ⟨a0, a1, a2, a3, a4, a5, a6, a7, a8, a9⟩ := cells10 hR7
      have fA : ∀ j, w7.frozen? ⟨w.heap.size + 1 + 1, j, none⟩ = false := fun j => frozen_of_row w7 _ j _ _ hR7
      clear hX7 hR7 hI7; go_wp2
      (try simp only [Exit.inBlock, Exit.then])
      refine bodyPost_ret (v := .tuple #[.agg #[.int .i64 s.role, .int .i64 s.step, .int .i64 s.sent, .int .i64 ((l.count : Int) + 1), .int .i64 s.prev, .int .i64 s.skip, .int .i64 s.cap, .int .i64 s.secret, .int .i64 pe, .slice yv M.length yc], .int .i64 0]) ?_ ?_ ?_
      · rw [results_cell_tmp (fn := Try.f31) rfl]; simp [go_sem, a0, a1, a2, a3, a4, a5, a6, a7, a8, a9]
      · rfl
      · have eM : (dueS s l.count).kept = M := HM.out.symm
        have eC : capS (keyR s (letQ l.step l.count l.prev pub) dn).2.2 = dueS s l.count := by
          rw [HK.out.2]
          apply capS_id
          rw [eM]
          show M.length ≤ s.cap
          omega
        have eB : ∀ v, bookC (dueS s l.count) pe v = #[.int .i64 s.role, .int .i64 s.step, .int .i64 s.sent, .int .i64 ((l.count : Int) + 1), .int .i64 s.prev, .int .i64 s.skip, .int .i64 s.cap, .int .i64 s.secret, .int .i64 pe, v] := fun v => rfl
        refine ⟨.inr ⟨HK.out.1, yv, yc, ?_, ?_, ?_⟩, ?_⟩
        · rw [eC, eB, eM]
        · rw [eC, eM]
          exact HI7.out.only (S := fun k => k = w.heap.size + 1 + 1) (by (repeat (first | (with_reducible refine onlyR_set ?_) | (with_reducible refine Only.drew ?_))); exact Only.refl _ _) (fun _ k hk q => by have := HF5.out k hk; omega)
        · intro k hk
          rw [eC, eM] at hk
          have := HF5.out k hk
          omega
        · repeat (with_reducible refine Below.setCell ?_ (by exact Nat.le_add_right _ 2) _)
          exact HW7.out
theorem mt_turn1 (s : StM) (pe : Int) (aa : Option Addr) (cc : Nat) (l : LtM) (pub dn : Nat) (w : World) (hv : IdsAt w (.slice aa s.kept.length cc) s.kept) (hq : LawQ s) (hkc : s.kept.length ≤ s.cap) (hf : ¬ (s.step + 1 < l.step ∨ l.step % 2 = s.step % 2)) (h1 : 1 ≤ l.step) (hc : l.count ≤ 49) (hp : l.prev ≤ 50) (ho : l.step = s.step + 1) (hs2 : ¬ 2 ≤ s.step) :
    Calls Try.prog 31 #[.agg #[.int .i64 s.role, .int .i64 s.step, .int .i64 s.sent, .int .i64 s.got, .int .i64 s.prev, .int .i64 s.skip, .int .i64 s.cap, .int .i64 s.secret, .int .i64 pe, .slice aa s.kept.length cc], .agg #[.string (str l.bytes), .string (str l.text), .int .i64 l.step, .int .i64 l.count, .int .i64 l.prev, .int .i64 l.secret, .bool l.out], .int .i64 dn] w fun e w' => BookOut w.heap.size s pe (.slice aa s.kept.length cc) (keyR s (letQ l.step l.count l.prev pub) dn) (l.secret : Int) w' e ∧ Below w.heap.size w w' := by
  have hst := hq.step; have hcap := hq.cap; have hgot := hq.got; have hsent := hq.sent
  have HTU : Hid (turnR s (letQ l.step l.count l.prev pub) dn = if 2 ≤ s.step ∧ skipBad s l.prev then (17, [], s) else dueR (turnS (endS s l.prev) l.step pub dn) l.count) := by
    show _ = _
    rw [turnR]; rfl
  have HKT : Hid ((keyR s (letQ l.step l.count l.prev pub) dn) = turnR s (letQ l.step l.count l.prev pub) dn) := by
    show _ = _
    rw [keyR, if_neg (show ¬ (s.step + 1 < (letQ l.step l.count l.prev pub).step ∨ (letQ l.step l.count l.prev pub).step % 2 = s.step % 2) from hf), if_pos (show (letQ l.step l.count l.prev pub).step = s.step + 1 from ho)]
  obtain ⟨s1, hs1⟩ : ∃ s1, s1 = turnS (endS s l.prev) l.step pub dn := ⟨_, rfl⟩
  obtain ⟨z1, z2, z3, z4, z5, z6, z7⟩ := endS_step s l.prev
  have HQ : Hid ((s1.role : Int) = (s.role : Int) ∧ (s1.step : Int) = (l.step : Int) + 1 ∧ (s1.sent : Int) = 0 ∧ (s1.got : Int) = 0 ∧ (s1.prev : Int) = (s.sent : Int) ∧ (s1.skip : Int) = (s.skip : Int) ∧ (s1.cap : Int) = (s.cap : Int) ∧ (s1.secret : Int) = (dn : Int)) := by
    rw [hs1]
    refine ⟨?_, ?_, rfl, rfl, ?_, ?_, ?_, rfl⟩
    · show ((endS s l.prev).role : Int) = _; rw [z5]
    · show ((l.step + 1 : Nat) : Int) = _; omega
    · show ((endS s l.prev).sent : Int) = _; rw [z4]
    · show ((endS s l.prev).skip : Int) = _; rw [z2]
    · show ((endS s l.prev).cap : Int) = _; rw [z3]
  have HKE : Hid (s1.kept = (endS s l.prev).kept) := by
    show _ = _
    rw [hs1]; rfl
  have hkl : ∀ e ∈ (endS s l.prev).kept, e.step < s.step := by
    intro e he
    rw [endS] at he
    by_cases h2q : 2 ≤ s.step
    · rw [if_pos h2q] at he
      rcases List.mem_append.1 he with he | he
      · exact (hq.keys.lo e he).2.1
      · have := (spanL_mem _ _ _ _ e he).1; omega
    · rw [if_neg h2q] at he
      exact (hq.keys.lo e he).2.1
  have HOF1 : Hid (ofL s1.kept l.step ≤ s1.skip) := by
    show _ ≤ _
    rw [HKE.out, ofL_none (fun e he => by have := hkl e he; omega)]; omega
  have h200 : s1.kept.length ≤ 200 := by
    rw [HKE.out, endS]
    by_cases h2q : 2 ≤ s.step
    · rw [if_pos h2q]
      show (s.kept ++ spanL _ _ _ _).length ≤ 200
      rw [List.length_append, spanL_length]; omega
    · rw [if_neg h2q]; omega
  have HS1 : Hid (s1.step = l.step + 1) := by
    show _ = _
    have := HQ.out.2.1; omega
  have hg1 : s1.got ≤ 1000 := by have := HQ.out.2.2.2.1; omega
  have hst1 : s1.step ≤ 1000 := by have := HS1.out; omega
  have HK1 : Hid ((keyR s (letQ l.step l.count l.prev pub) dn) = dueR s1 l.count) := by
    show _ = _
    rw [HKT.out, HTU.out, if_neg (fun q => hs2 q.1), hs1]
  have HKK : Hid (s1.kept = s.kept) := by
    show _ = _
    rw [HKE.out, endS, if_neg hs2]
  have n1 : decide ((l.step : Int) < (s.step : Int) - 1) = false := by rw [decide_eq_false_iff_not]; omega
  have n1' : ¬ (l.step : Int) < (s.step : Int) - 1 := by omega
  have wst := wrap_i64 ((s.step : Int) - 1) (by omega) (by omega)
  have wst2 := wrap_i64 ((s.step : Int) + 1) (by omega) (by omega)
  have n2 : ((l.step : Int) == (s.step : Int) - 1) = false := by rw [beq_eq_false_iff_ne]; omega
  have n4 : ((l.step : Int) == (s.step : Int) + 1) = true := by rw [beq_iff_eq]; omega
  have n5 : ¬ (1 : Int) < (s.step : Int) := by omega
  have wls := wrap_i64 ((l.step : Int) + 1) (by omega) (by omega)
  clear hq hf ho hs2 hs1 z1 z2 z3 z4 z5 z6 z7 hkl
  go_enter Try.func31, Try.ntmps31
  go_upto_region 1 with fail
  obtain ⟨wb, ewb, hB, hL, hR, hW, hlt⟩ := alloc3e w (.cells #[.int .i64 s.role, .int .i64 s.step, .int .i64 s.sent, .int .i64 s.got, .int .i64 s.prev, .int .i64 s.skip, .int .i64 s.cap, .int .i64 s.secret, .int .i64 pe, .slice aa s.kept.length cc] 38) (.cells #[.string (str l.bytes), .string (str l.text), .int .i64 l.step, .int .i64 l.count, .int .i64 l.prev, .int .i64 l.secret, .bool l.out] 63) (.cells #[.int .i64 0, .int .i64 0, .int .i64 0, .int .i64 0, .int .i64 0, .int .i64 0, .int .i64 0, .int .i64 0, .int .i64 0, .slice none 0 0] 38); rw [← ewb]; clear ewb; have HV := hid (hv.next hW); have HB := hid hB; have HL := hid hL; have HR := hid hR; have HW := hid hW; obtain ⟨k0, k1, k2, k3, k4, k5, k6, k7, k8, k9⟩ := cells10 hB; have l0 : wb.cell? ⟨w.heap.size + 1, 0, none⟩ = some (.string (str l.bytes)) := cell_of_row wb _ 0 _ _ _ hL; have l1 : wb.cell? ⟨w.heap.size + 1, 1, none⟩ = some (.string (str l.text)) := cell_of_row wb _ 1 _ _ _ hL; have l2 : wb.cell? ⟨w.heap.size + 1, 2, none⟩ = some (.int .i64 l.step) := cell_of_row wb _ 2 _ _ _ hL; have l3 : wb.cell? ⟨w.heap.size + 1, 3, none⟩ = some (.int .i64 l.count) := cell_of_row wb _ 3 _ _ _ hL; have l4 : wb.cell? ⟨w.heap.size + 1, 4, none⟩ = some (.int .i64 l.prev) := cell_of_row wb _ 4 _ _ _ hL; have l5 : wb.cell? ⟨w.heap.size + 1, 5, none⟩ = some (.int .i64 l.secret) := cell_of_row wb _ 5 _ _ _ hL; have l6 : wb.cell? ⟨w.heap.size + 1, 6, none⟩ = some (.bool l.out) := cell_of_row wb _ 6 _ _ _ hL; obtain ⟨a0, a1, a2, a3, a4, a5, a6, a7, a8, a9⟩ := cells10 hR
  have fA : ∀ j, wb.frozen? ⟨w.heap.size + 1 + 1, j, none⟩ = false := fun j => frozen_of_row wb _ j _ _ hR
  clear hB hL hR hW hv
  go_upto_region 20 with fail
  have hT3 : (wb.alloc (.cells #[.int .i64 s.role, .int .i64 ((l.step : Int) + 1), .int .i64 0, .int .i64 0, .int .i64 s.sent, .int .i64 s.skip, .int .i64 s.cap, .int .i64 dn, .int .i64 l.secret, .slice aa s.kept.length cc] 38)).heap[w.heap.size + 1 + 1 + 1]? = some (.cells #[.int .i64 s.role, .int .i64 ((l.step : Int) + 1), .int .i64 0, .int .i64 0, .int .i64 s.sent, .int .i64 s.skip, .int .i64 s.cap, .int .i64 dn, .int .i64 l.secret, .slice aa s.kept.length cc] 38) := by
    have := heap_alloc_new wb (.cells #[.int .i64 s.role, .int .i64 ((l.step : Int) + 1), .int .i64 0, .int .i64 0, .int .i64 s.sent, .int .i64 s.skip, .int .i64 s.cap, .int .i64 dn, .int .i64 l.secret, .slice aa s.kept.length cc] 38)
    rw [hlt] at this
    exact this
  have hA3 : Below wb.heap.size wb (wb.alloc (.cells #[.int .i64 s.role, .int .i64 ((l.step : Int) + 1), .int .i64 0, .int .i64 0, .int .i64 s.sent, .int .i64 s.skip, .int .i64 s.cap, .int .i64 dn, .int .i64 l.secret, .slice aa s.kept.length cc] 38)) := (Below.refl _ _).alloc (Nat.le_refl _) _
  have hs4 : w.heap.size + 1 + 1 + 1 < (wb.alloc (.cells #[.int .i64 s.role, .int .i64 ((l.step : Int) + 1), .int .i64 0, .int .i64 0, .int .i64 s.sent, .int .i64 s.skip, .int .i64 s.cap, .int .i64 dn, .int .i64 l.secret, .slice aa s.kept.length cc] 38)).heap.size := by simp; omega
  clear k0 k1 k2 k3 k4 k5 k6 k7 k8 k9 l0 l1 l2 l3 l4 l5 l6 a0 a1 a2 a3 a4 a5 a6 a7 a8 a9 fA
  generalize (wb.alloc (.cells #[.int .i64 s.role, .int .i64 ((l.step : Int) + 1), .int .i64 0, .int .i64 0, .int .i64 s.sent, .int .i64 s.skip, .int .i64 s.cap, .int .i64 dn, .int .i64 l.secret, .slice aa s.kept.length cc] 38)) = w4 at hT3 hA3 hs4 ⊢
  have HB4 := hid ((hA3.block w.heap.size (by omega)).trans HB.out)
  have HL4 := hid ((hA3.block (w.heap.size + 1) (by omega)).trans HL.out)
  have HR4 := hid ((hA3.block (w.heap.size + 1 + 1) (by omega)).trans HR.out)
  have HW4 := hid (below_tr HW.out hA3)
  have HI4 : Hid (IdsAt w4 (.slice aa s1.kept.length cc) s1.kept) := by
    show IdsAt _ _ _
    rw [HKK.out]; exact HV.out.next hA3
  have HT4 : Hid (w4.heap[w.heap.size + 1 + 1 + 1]? = some (.cells #[.int .i64 s1.role, .int .i64 s1.step, .int .i64 s1.sent, .int .i64 s1.got, .int .i64 s1.prev, .int .i64 s1.skip, .int .i64 s1.cap, .int .i64 s1.secret, .int .i64 l.secret, .slice aa s1.kept.length cc] 38)) := by
    show _ = _
    obtain ⟨q0, q1, q2, q3, q4, q5, q6, q7⟩ := HQ.out
    rw [q0, q1, q2, q3, q4, q5, q6, q7, HKK.out]; exact hT3
  clear hT3 hA3 HB HL HR HV HQ HKE HKK HTU HKT; have hof1 : ofL s1.kept l.step ≤ s1.skip := HOF1.out; have y3l : w4.cell? ⟨w.heap.size + 1, 3, none⟩ = some (.int .i64 l.count) := cell_of_row w4 _ 3 _ _ _ HL4.out; obtain ⟨y0, y1, y2, y3, y4, y5, y6, y7, y8, y9⟩ := cells10 HT4.out
  have fT : ∀ j, w4.frozen? ⟨w.heap.size + 1 + 1 + 1, j, none⟩ = false := fun j => frozen_of_row w4 _ j _ _ HT4.out
  by_cases hbad : skipBad s1 l.count
  · have cp := fun w hv => passed_bad s1 (l.secret : Int) aa cc l.count l.step w hv h200 HS1.out hst1 hg1 (by omega) hbad
    have HK : Hid ((keyR s (letQ l.step l.count l.prev pub) dn).1 = 17) := by
      show _ = _
      rw [HK1.out, dueR, if_pos hbad]
    clear hbad
    go_upto_region 21 with (first | (go_at_call 48; go_must (with_reducible refine (cp _ HI4.out).mono ?_); rintro e w5 ⟨⟨yv, yc, rfl, hI5, hF5⟩, hb5⟩; have hTx := (hb5.block (w.heap.size + 1 + 1 + 1) (by omega)).trans HT4.out; obtain ⟨t0, t1, t2, t3, t4, t5, t6, t7, t8, t9⟩ := cells10 hTx; have fT5 : ∀ j, w5.frozen? ⟨w.heap.size + 1 + 1 + 1, j, none⟩ = false := fun j => frozen_of_row w5 _ j _ _ hTx; clear hTx))
    have hsz5 := hb5.size
    have hT5 := (hb5.block (w.heap.size + 1 + 1 + 1) (by omega)).trans HT4.out
    have hB5 := (hb5.block w.heap.size (by omega)).trans HB4.out
    have hL5 := (hb5.block (w.heap.size + 1) (by omega)).trans HL4.out
    have hR5 := (hb5.block (w.heap.size + 1 + 1) (by omega)).trans HR4.out
    obtain ⟨w6, hw6, hX6, hN6⟩ := store10 hT5 (.int .i64 s1.role) (.int .i64 s1.step) (.int .i64 s1.sent) (.int .i64 s1.got) (.int .i64 s1.prev) (.int .i64 s1.skip) (.int .i64 s1.cap) (.int .i64 s1.secret) (.int .i64 l.secret) (.slice yv (passS s1 l.count).kept.length yc); rw [← hw6]; clear hw6; have hsz6 := hN6.size
    have hB6 := (hN6.block w.heap.size (by omega) (by omega)).trans hB5
    have hL6 := (hN6.block (w.heap.size + 1) (by omega) (by omega)).trans hL5
    have hR6 := (hN6.block (w.heap.size + 1 + 1) (by omega) (by omega)).trans hR5
    have hI6 := hI5.only hN6 (fun _ k hk q => by have := hF5 k hk; omega)
    have HW6 : Hid (Below w.heap.size w w6) := (below_tr HW4.out hb5).trans (hN6.below (by omega) (fun k q => by omega))
    have HF5 := hid hF5; clear hT5 hB5 hL5 hR5 hI5 hb5 cp y3l fT fT5 y0 y1 y2 y3 y4 y5 y6 y7 y8 y9 t0 t1 t2 t3 t4 t5 t6 t7 t8 t9 hF5; obtain ⟨k0, k1, k2, k3, k4, k5, k6, k7, k8, k9⟩ := cells10 hB6; obtain ⟨a0, a1, a2, a3, a4, a5, a6, a7, a8, a9⟩ := cells10 hR6
    have fA : ∀ j, w6.frozen? ⟨w.heap.size + 1 + 1, j, none⟩ = false := fun j => frozen_of_row w6 _ j _ _ hR6
    clear hB6 hL6 hR6 hX6 hI6 hN6; go_wp2
    (try simp only [Exit.inBlock, Exit.then])
    refine bodyPost_ret (v := .tuple #[.agg #[.int .i64 s.role, .int .i64 s.step, .int .i64 s.sent, .int .i64 s.got, .int .i64 s.prev, .int .i64 s.skip, .int .i64 s.cap, .int .i64 s.secret, .int .i64 pe, .slice aa s.kept.length cc], .int .i64 17]) ?_ ?_ ?_
    · rw [results_cell_tmp (fn := Try.f31) rfl]; simp [go_sem, a0, a1, a2, a3, a4, a5, a6, a7, a8, a9]
    · rfl
    · refine ⟨.inl ⟨by rw [HK.out]; simp, by rw [HK.out]; rfl⟩, ?_⟩
      repeat (with_reducible refine Below.setCell ?_ (by exact Nat.le_add_right _ 2) _)
      exact HW6.out
  · have cp := fun w hv => passed_ok s1 (l.secret : Int) aa cc l.count l.step w hv h200 HS1.out hst1 hg1 (by omega) hof1 hbad
    have HK : Hid ((keyR s (letQ l.step l.count l.prev pub) dn).1 = 0 ∧ (keyR s (letQ l.step l.count l.prev pub) dn).2.2 = dueS s1 l.count) := by
      show _ ∧ _
      rw [HK1.out, dueR, if_neg hbad]; exact ⟨rfl, rfl⟩
    clear hbad
    go_upto_region 21 with (first | (go_at_call 48; go_must (with_reducible refine (cp _ HI4.out).mono ?_); rintro e w5 ⟨⟨yv, yc, rfl, hI5, hF5⟩, hb5⟩; have hTx := (hb5.block (w.heap.size + 1 + 1 + 1) (by omega)).trans HT4.out; obtain ⟨t0, t1, t2, t3, t4, t5, t6, t7, t8, t9⟩ := cells10 hTx; have fT5 : ∀ j, w5.frozen? ⟨w.heap.size + 1 + 1 + 1, j, none⟩ = false := fun j => frozen_of_row w5 _ j _ _ hTx; clear hTx))
    have hsz5 := hb5.size
    have hT5 := (hb5.block (w.heap.size + 1 + 1 + 1) (by omega)).trans HT4.out
    have hB5 := (hb5.block w.heap.size (by omega)).trans HB4.out
    have hL5 := (hb5.block (w.heap.size + 1) (by omega)).trans HL4.out
    have hR5 := (hb5.block (w.heap.size + 1 + 1) (by omega)).trans HR4.out
    obtain ⟨w6, hw6, hX6, hN6⟩ := store10 hT5 (.int .i64 s1.role) (.int .i64 s1.step) (.int .i64 s1.sent) (.int .i64 s1.got) (.int .i64 s1.prev) (.int .i64 s1.skip) (.int .i64 s1.cap) (.int .i64 s1.secret) (.int .i64 l.secret) (.slice yv (passS s1 l.count).kept.length yc); rw [← hw6]; clear hw6; have hsz6 := hN6.size
    have hB6 := (hN6.block w.heap.size (by omega) (by omega)).trans hB5
    have hL6 := (hN6.block (w.heap.size + 1) (by omega) (by omega)).trans hL5
    have hR6 := (hN6.block (w.heap.size + 1 + 1) (by omega) (by omega)).trans hR5
    have hI6 := hI5.only hN6 (fun _ k hk q => by have := hF5 k hk; omega)
    have HW6 : Hid (Below w.heap.size w w6) := (below_tr HW4.out hb5).trans (hN6.below (by omega) (fun k q => by omega))
    have HF5 := hid hF5; clear hT5 hB5 hL5 hR5 hI5 hb5 cp y3l fT fT5 y0 y1 y2 y3 y4 y5 y6 y7 y8 y9 t0 t1 t2 t3 t4 t5 t6 t7 t8 t9 hF5; have y3l : w6.cell? ⟨w.heap.size + 1, 3, none⟩ = some (.int .i64 l.count) := cell_of_row w6 _ 3 _ _ _ hL6; have y3t : w6.cell? ⟨w.heap.size + 1 + 1 + 1, 3, none⟩ = some (.int .i64 s1.got) := cell_of_row w6 _ 3 _ _ _ hX6
    have fT : ∀ j, w6.frozen? ⟨w.heap.size + 1 + 1 + 1, j, none⟩ = false := fun j => frozen_of_row w6 _ j _ _ hX6
    have hwc := wrap_i64 ((l.count : Int) + 1) (by omega) (by omega)
    go_upto_region 24 with fail
    have hX7 : (w6.setCell ⟨w.heap.size + 1 + 1 + 1, 3, none⟩ (.int .i64 ((l.count : Int) + 1))).heap[w.heap.size + 1 + 1 + 1]? = some (.cells #[.int .i64 s1.role, .int .i64 s1.step, .int .i64 s1.sent, .int .i64 ((l.count : Int) + 1), .int .i64 s1.prev, .int .i64 s1.skip, .int .i64 s1.cap, .int .i64 s1.secret, .int .i64 l.secret, .slice yv (passS s1 l.count).kept.length yc] 38) := heap_setCell_same _ _ _ _ _ _ hX6
    have hN7 : Only (fun k => k = w.heap.size + 1 + 1 + 1) w6 (w6.setCell ⟨w.heap.size + 1 + 1 + 1, 3, none⟩ (.int .i64 ((l.count : Int) + 1))) := Only.set (S := fun k => k = w.heap.size + 1 + 1 + 1) (Only.refl _ _) rfl _
    clear y3l y3t fT
    generalize (w6.setCell ⟨w.heap.size + 1 + 1 + 1, 3, none⟩ (.int .i64 ((l.count : Int) + 1))) = w7 at hX7 hN7 ⊢
    have hsz7 := hN7.size
    have hR7 := (hN7.block (w.heap.size + 1 + 1) (by omega) (by omega)).trans hR6
    have hI7 := hI6.only hN7 (fun _ k hk q => by have := HF5.out k hk; omega)
    have HW7 : Hid (Below w.heap.size w w7) := HW6.out.trans (hN7.below (by omega) (fun k q => by omega))
    have HX7 := hid hX7; have HR7 := hid hR7; clear hX6 hB6 hL6 hR6 hI6 hN6 hN7
    obtain ⟨M, hM⟩ : ∃ M, M = (passS s1 l.count).kept := ⟨_, rfl⟩
    have HM := hid hM
    rw [← hM] at hX7 hI7 HX7 HF5
    have hM200 : M.length ≤ 400 := by
      rw [hM]
      show (s1.kept ++ spanL _ _ _ _).length ≤ 400
      rw [List.length_append, spanL_length]; omega
    clear hM; have y9 : w7.cell? ⟨w.heap.size + 1 + 1 + 1, 9, none⟩ = some (.slice yv M.length yc) := cell_of_row w7 _ 9 _ _ _ hX7; have y6 : w7.cell? ⟨w.heap.size + 1 + 1 + 1, 6, none⟩ = some (.int .i64 s1.cap) := cell_of_row w7 _ 6 _ _ _ hX7; have HI7 := hid hI7
    by_cases hcp : s1.cap < M.length
    · obtain ⟨gb, go, hyv, _⟩ := hI7.at (j := 0) (by omega)
      subst hyv
      have hcpi : (s1.cap : Int) < (M.length : Int) := by omega
      have hdr := hI7.drop (n := M.length - s1.cap) (by omega) (by omega)
      have hyc : M.length ≤ yc ∧ yc ≤ maxLen := by
        rcases hI7 with ⟨q, _⟩ | ⟨_, _, cap', q1, q2, q3, _⟩
        · rw [q] at hcp; simp at hcp
        · injection q1 with _ _ q1
          subst q1; exact ⟨q2, q3⟩
      obtain ⟨hyc1, hyc2⟩ := hyc
      unfold maxLen at hyc2
      have hw1 := wrap_i64 ((M.length : Int) - (s1.cap : Int)) (by omega) (by omega)
      have e2 : ((M.length : Int) - (s1.cap : Int)).toNat = M.length - s1.cap := by omega
      have zz1 : (0 : Int) ≤ (M.length : Int) - (s1.cap : Int) := by omega
      have zz2 : (M.length : Int) - (s1.cap : Int) ≤ (M.length : Int) := by omega
      have zz3 : (M.length : Int) ≤ (yc : Int) := by omega
      have fT : ∀ j, w7.frozen? ⟨w.heap.size + 1 + 1 + 1, j, none⟩ = false := fun j => frozen_of_row w7 _ j _ _ hX7
      clear hX7 hR7 hI7
      by_cases hz : yc = M.length - s1.cap
      · have HDR : Hid (IdsAt w7 (.slice (some ⟨gb, go, none⟩) 0 0) (M.drop (M.length - s1.cap))) := .inl ⟨List.drop_of_length_le (by omega), some ⟨gb, go, none⟩, 0, rfl⟩
        have HZ := hid hz; subst hz; clear hdr
        go_upto_region 26 with fail
        have hX8 : (w7.setCell ⟨w.heap.size + 1 + 1 + 1, 9, none⟩ (.slice (some ⟨gb, go, none⟩) 0 0)).heap[w.heap.size + 1 + 1 + 1]? = some (.cells #[.int .i64 s1.role, .int .i64 s1.step, .int .i64 s1.sent, .int .i64 ((l.count : Int) + 1), .int .i64 s1.prev, .int .i64 s1.skip, .int .i64 s1.cap, .int .i64 s1.secret, .int .i64 l.secret, .slice (some ⟨gb, go, none⟩) 0 0] 38) := heap_setCell_same _ _ _ _ _ _ HX7.out
        have hN8 : Only (fun k => k = w.heap.size + 1 + 1 + 1) w7 (w7.setCell ⟨w.heap.size + 1 + 1 + 1, 9, none⟩ (.slice (some ⟨gb, go, none⟩) 0 0)) := Only.set (S := fun k => k = w.heap.size + 1 + 1 + 1) (Only.refl _ _) rfl _
        clear y9 y6 fT
        generalize (w7.setCell ⟨w.heap.size + 1 + 1 + 1, 9, none⟩ (.slice (some ⟨gb, go, none⟩) 0 0)) = w8 at hX8 hN8 ⊢
        have hsz8 := hN8.size
        have hR8 := (hN8.block (w.heap.size + 1 + 1) (by omega) (by omega)).trans HR7.out
        have HI8 := hid (HDR.out.only hN8 (fun _ k hk q => by have := HF5.out k hk; omega))
        have HW8 : Hid (Below w.heap.size w w8) := HW7.out.trans (hN8.below (by omega) (fun k q => by omega))
        obtain ⟨y0, y1, y2, y3, y4, y5, y6, y7, y8, y9⟩ := cells10 hX8; obtain ⟨a0, a1, a2, a3, a4, a5, a6, a7, a8, a9⟩ := cells10 hR8
        have fA : ∀ j, w8.frozen? ⟨w.heap.size + 1 + 1, j, none⟩ = false := fun j => frozen_of_row w8 _ j _ _ hR8
        clear hX8 hR8 hN8; go_wp2
        (try simp only [Exit.inBlock, Exit.then])
        refine bodyPost_ret (v := .tuple #[.agg #[.int .i64 s1.role, .int .i64 s1.step, .int .i64 s1.sent, .int .i64 ((l.count : Int) + 1), .int .i64 s1.prev, .int .i64 s1.skip, .int .i64 s1.cap, .int .i64 s1.secret, .int .i64 l.secret, .slice (some ⟨gb, go, none⟩) 0 0], .int .i64 0]) ?_ ?_ ?_
        · rw [results_cell_tmp (fn := Try.f31) rfl]; simp [go_sem, a0, a1, a2, a3, a4, a5, a6, a7, a8, a9]
        · rfl
        · have eM : (dueS s1 l.count).kept = M := HM.out.symm
          have eK : (capS (keyR s (letQ l.step l.count l.prev pub) dn).2.2).kept = M.drop (M.length - s1.cap) := by
            rw [HK.out.2]
            show (dueS s1 l.count).kept.drop ((dueS s1 l.count).kept.length - (dueS s1 l.count).cap) = _
            rw [eM]; rfl
          have eL : (capS (keyR s (letQ l.step l.count l.prev pub) dn).2.2).kept.length = 0 := by rw [eK, List.length_drop]; omega
          have eB : ∀ v, bookC (capS (keyR s (letQ l.step l.count l.prev pub) dn).2.2) (l.secret : Int) v = #[.int .i64 s1.role, .int .i64 s1.step, .int .i64 s1.sent, .int .i64 ((l.count : Int) + 1), .int .i64 s1.prev, .int .i64 s1.skip, .int .i64 s1.cap, .int .i64 s1.secret, .int .i64 l.secret, v] := fun v => by
            rw [HK.out.2]; rfl
          refine ⟨.inr ⟨HK.out.1, some ⟨gb, go, none⟩, 0, ?_, ?_, ?_⟩, ?_⟩
          · rw [eB, eL]
          · rw [eL, eK]
            exact HI8.out.only (S := fun k => k = w.heap.size + 1 + 1) (by (repeat (first | (with_reducible refine onlyR_set ?_) | (with_reducible refine Only.drew ?_))); exact Only.refl _ _) (fun _ k hk q => by have := HF5.out k hk; omega)
          · intro k hk
            have := HF5.out k hk
            omega
          · repeat (with_reducible refine Below.setCell ?_ (by exact Nat.le_add_right _ 2) _)
            exact HW8.out
      · have HDR := hid hdr; clear hdr
        go_upto_region 26 with fail
        have hX8 : (w7.setCell ⟨w.heap.size + 1 + 1 + 1, 9, none⟩ (.slice (some ⟨gb, go + (M.length - s1.cap) * 2, none⟩) (M.length - (M.length - s1.cap)) (yc - (M.length - s1.cap)))).heap[w.heap.size + 1 + 1 + 1]? = some (.cells #[.int .i64 s1.role, .int .i64 s1.step, .int .i64 s1.sent, .int .i64 ((l.count : Int) + 1), .int .i64 s1.prev, .int .i64 s1.skip, .int .i64 s1.cap, .int .i64 s1.secret, .int .i64 l.secret, .slice (some ⟨gb, go + (M.length - s1.cap) * 2, none⟩) (M.length - (M.length - s1.cap)) (yc - (M.length - s1.cap))] 38) := heap_setCell_same _ _ _ _ _ _ HX7.out
        have hN8 : Only (fun k => k = w.heap.size + 1 + 1 + 1) w7 (w7.setCell ⟨w.heap.size + 1 + 1 + 1, 9, none⟩ (.slice (some ⟨gb, go + (M.length - s1.cap) * 2, none⟩) (M.length - (M.length - s1.cap)) (yc - (M.length - s1.cap)))) := Only.set (S := fun k => k = w.heap.size + 1 + 1 + 1) (Only.refl _ _) rfl _
        clear y9 y6 fT
        generalize (w7.setCell ⟨w.heap.size + 1 + 1 + 1, 9, none⟩ (.slice (some ⟨gb, go + (M.length - s1.cap) * 2, none⟩) (M.length - (M.length - s1.cap)) (yc - (M.length - s1.cap)))) = w8 at hX8 hN8 ⊢
        have hsz8 := hN8.size
        have hR8 := (hN8.block (w.heap.size + 1 + 1) (by omega) (by omega)).trans HR7.out
        have HI8 := hid (HDR.out.only hN8 (fun _ k hk q => by have := HF5.out k hk; omega))
        have HW8 : Hid (Below w.heap.size w w8) := HW7.out.trans (hN8.below (by omega) (fun k q => by omega))
        obtain ⟨y0, y1, y2, y3, y4, y5, y6, y7, y8, y9⟩ := cells10 hX8; obtain ⟨a0, a1, a2, a3, a4, a5, a6, a7, a8, a9⟩ := cells10 hR8
        have fA : ∀ j, w8.frozen? ⟨w.heap.size + 1 + 1, j, none⟩ = false := fun j => frozen_of_row w8 _ j _ _ hR8
        clear hX8 hR8 hN8; go_wp2
        (try simp only [Exit.inBlock, Exit.then])
        refine bodyPost_ret (v := .tuple #[.agg #[.int .i64 s1.role, .int .i64 s1.step, .int .i64 s1.sent, .int .i64 ((l.count : Int) + 1), .int .i64 s1.prev, .int .i64 s1.skip, .int .i64 s1.cap, .int .i64 s1.secret, .int .i64 l.secret, .slice (some ⟨gb, go + (M.length - s1.cap) * 2, none⟩) (M.length - (M.length - s1.cap)) (yc - (M.length - s1.cap))], .int .i64 0]) ?_ ?_ ?_
        · rw [results_cell_tmp (fn := Try.f31) rfl]; simp [go_sem, a0, a1, a2, a3, a4, a5, a6, a7, a8, a9]
        · rfl
        · have eM : (dueS s1 l.count).kept = M := HM.out.symm
          have eK : (capS (keyR s (letQ l.step l.count l.prev pub) dn).2.2).kept = M.drop (M.length - s1.cap) := by
            rw [HK.out.2]
            show (dueS s1 l.count).kept.drop ((dueS s1 l.count).kept.length - (dueS s1 l.count).cap) = _
            rw [eM]; rfl
          have eL : (capS (keyR s (letQ l.step l.count l.prev pub) dn).2.2).kept.length = (M.length - (M.length - s1.cap)) := by rw [eK, List.length_drop]
          have eB : ∀ v, bookC (capS (keyR s (letQ l.step l.count l.prev pub) dn).2.2) (l.secret : Int) v = #[.int .i64 s1.role, .int .i64 s1.step, .int .i64 s1.sent, .int .i64 ((l.count : Int) + 1), .int .i64 s1.prev, .int .i64 s1.skip, .int .i64 s1.cap, .int .i64 s1.secret, .int .i64 l.secret, v] := fun v => by
            rw [HK.out.2]; rfl
          refine ⟨.inr ⟨HK.out.1, some ⟨gb, go + (M.length - s1.cap) * 2, none⟩, (yc - (M.length - s1.cap)), ?_, ?_, ?_⟩, ?_⟩
          · rw [eB, eL]
          · rw [eL, eK]
            exact HI8.out.only (S := fun k => k = w.heap.size + 1 + 1) (by (repeat (first | (with_reducible refine onlyR_set ?_) | (with_reducible refine Only.drew ?_))); exact Only.refl _ _) (fun _ k hk q => by have := HF5.out k hk; omega)
          · intro k hk
            have := HF5.out k hk
            omega
          · repeat (with_reducible refine Below.setCell ?_ (by exact Nat.le_add_right _ 2) _)
            exact HW8.out
    · have hcpi : ¬ (s1.cap : Int) < (M.length : Int) := by omega
      obtain ⟨y0, y1, y2, y3, y4, y5, y6, y7, y8, y9⟩ := cells10 hX7; obtain ⟨a0, a1, a2, a3, a4, a5, a6, a7, a8, a9⟩ := cells10 hR7
      have fA : ∀ j, w7.frozen? ⟨w.heap.size + 1 + 1, j, none⟩ = false := fun j => frozen_of_row w7 _ j _ _ hR7
      clear hX7 hR7 hI7; go_wp2
      (try simp only [Exit.inBlock, Exit.then])
      refine bodyPost_ret (v := .tuple #[.agg #[.int .i64 s1.role, .int .i64 s1.step, .int .i64 s1.sent, .int .i64 ((l.count : Int) + 1), .int .i64 s1.prev, .int .i64 s1.skip, .int .i64 s1.cap, .int .i64 s1.secret, .int .i64 l.secret, .slice yv M.length yc], .int .i64 0]) ?_ ?_ ?_
      · rw [results_cell_tmp (fn := Try.f31) rfl]; simp [go_sem, a0, a1, a2, a3, a4, a5, a6, a7, a8, a9]
      · rfl
      · have eM : (dueS s1 l.count).kept = M := HM.out.symm
        have eC : capS (keyR s (letQ l.step l.count l.prev pub) dn).2.2 = dueS s1 l.count := by
          rw [HK.out.2]
          apply capS_id
          rw [eM]
          show M.length ≤ s1.cap
          omega
        have eB : ∀ v, bookC (dueS s1 l.count) (l.secret : Int) v = #[.int .i64 s1.role, .int .i64 s1.step, .int .i64 s1.sent, .int .i64 ((l.count : Int) + 1), .int .i64 s1.prev, .int .i64 s1.skip, .int .i64 s1.cap, .int .i64 s1.secret, .int .i64 l.secret, v] := fun v => rfl
        refine ⟨.inr ⟨HK.out.1, yv, yc, ?_, ?_, ?_⟩, ?_⟩
        · rw [eC, eB, eM]
        · rw [eC, eM]
          exact HI7.out.only (S := fun k => k = w.heap.size + 1 + 1) (by (repeat (first | (with_reducible refine onlyR_set ?_) | (with_reducible refine Only.drew ?_))); exact Only.refl _ _) (fun _ k hk q => by have := HF5.out k hk; omega)
        · intro k hk
          rw [eC, eM] at hk
          have := HF5.out k hk
          omega
        · repeat (with_reducible refine Below.setCell ?_ (by exact Nat.le_add_right _ 2) _)
          exact HW7.out
theorem mt_turn2bad (s : StM) (pe : Int) (aa : Option Addr) (cc : Nat) (l : LtM) (pub dn : Nat) (w : World) (hv : IdsAt w (.slice aa s.kept.length cc) s.kept) (hq : LawQ s) (hkc : s.kept.length ≤ s.cap) (hf : ¬ (s.step + 1 < l.step ∨ l.step % 2 = s.step % 2)) (h1 : 1 ≤ l.step) (hc : l.count ≤ 49) (hp : l.prev ≤ 50) (ho : l.step = s.step + 1) (hs2 : 2 ≤ s.step) (hbad : skipBad s l.prev) :
    Calls Try.prog 31 #[.agg #[.int .i64 s.role, .int .i64 s.step, .int .i64 s.sent, .int .i64 s.got, .int .i64 s.prev, .int .i64 s.skip, .int .i64 s.cap, .int .i64 s.secret, .int .i64 pe, .slice aa s.kept.length cc], .agg #[.string (str l.bytes), .string (str l.text), .int .i64 l.step, .int .i64 l.count, .int .i64 l.prev, .int .i64 l.secret, .bool l.out], .int .i64 dn] w fun e w' => BookOut w.heap.size s pe (.slice aa s.kept.length cc) (keyR s (letQ l.step l.count l.prev pub) dn) (l.secret : Int) w' e ∧ Below w.heap.size w w' := by
  have hst := hq.step; have hcap := hq.cap; have hgot := hq.got; have hsent := hq.sent
  have HTU : Hid (turnR s (letQ l.step l.count l.prev pub) dn = if 2 ≤ s.step ∧ skipBad s l.prev then (17, [], s) else dueR (turnS (endS s l.prev) l.step pub dn) l.count) := by
    show _ = _
    rw [turnR]; rfl
  have HKT : Hid ((keyR s (letQ l.step l.count l.prev pub) dn) = turnR s (letQ l.step l.count l.prev pub) dn) := by
    show _ = _
    rw [keyR, if_neg (show ¬ (s.step + 1 < (letQ l.step l.count l.prev pub).step ∨ (letQ l.step l.count l.prev pub).step % 2 = s.step % 2) from hf), if_pos (show (letQ l.step l.count l.prev pub).step = s.step + 1 from ho)]
  have HK : Hid ((keyR s (letQ l.step l.count l.prev pub) dn).1 = 17) := by
    show _ = _
    rw [HKT.out, HTU.out, if_pos ⟨hs2, hbad⟩]
  obtain ⟨sp, hsp⟩ : ∃ sp, s.step = sp + 1 := ⟨s.step - 1, by omega⟩
  have cp := fun w hv => passed_bad s pe aa cc l.prev sp w hv (by omega) hsp (by omega) (by omega) (by omega) hbad
  have n1 : decide ((l.step : Int) < (s.step : Int) - 1) = false := by rw [decide_eq_false_iff_not]; omega
  have n1' : ¬ (l.step : Int) < (s.step : Int) - 1 := by omega
  have wst := wrap_i64 ((s.step : Int) - 1) (by omega) (by omega)
  have wst2 := wrap_i64 ((s.step : Int) + 1) (by omega) (by omega)
  have n2 : ((l.step : Int) == (s.step : Int) - 1) = false := by rw [beq_eq_false_iff_ne]; omega
  have n4 : ((l.step : Int) == (s.step : Int) + 1) = true := by rw [beq_iff_eq]; omega
  have n5 : (1 : Int) < (s.step : Int) := by omega
  clear hq hf ho hs2 hbad hsp HTU HKT
  go_enter Try.func31, Try.ntmps31
  go_upto_region 1 with fail
  obtain ⟨wb, ewb, hB, hL, hR, hW, hlt⟩ := alloc3e w (.cells #[.int .i64 s.role, .int .i64 s.step, .int .i64 s.sent, .int .i64 s.got, .int .i64 s.prev, .int .i64 s.skip, .int .i64 s.cap, .int .i64 s.secret, .int .i64 pe, .slice aa s.kept.length cc] 38) (.cells #[.string (str l.bytes), .string (str l.text), .int .i64 l.step, .int .i64 l.count, .int .i64 l.prev, .int .i64 l.secret, .bool l.out] 63) (.cells #[.int .i64 0, .int .i64 0, .int .i64 0, .int .i64 0, .int .i64 0, .int .i64 0, .int .i64 0, .int .i64 0, .int .i64 0, .slice none 0 0] 38); rw [← ewb]; clear ewb; have HV := hid (hv.next hW); have HB := hid hB; have HL := hid hL; have HR := hid hR; have HW := hid hW; obtain ⟨k0, k1, k2, k3, k4, k5, k6, k7, k8, k9⟩ := cells10 hB; have l0 : wb.cell? ⟨w.heap.size + 1, 0, none⟩ = some (.string (str l.bytes)) := cell_of_row wb _ 0 _ _ _ hL; have l1 : wb.cell? ⟨w.heap.size + 1, 1, none⟩ = some (.string (str l.text)) := cell_of_row wb _ 1 _ _ _ hL; have l2 : wb.cell? ⟨w.heap.size + 1, 2, none⟩ = some (.int .i64 l.step) := cell_of_row wb _ 2 _ _ _ hL; have l3 : wb.cell? ⟨w.heap.size + 1, 3, none⟩ = some (.int .i64 l.count) := cell_of_row wb _ 3 _ _ _ hL; have l4 : wb.cell? ⟨w.heap.size + 1, 4, none⟩ = some (.int .i64 l.prev) := cell_of_row wb _ 4 _ _ _ hL; have l5 : wb.cell? ⟨w.heap.size + 1, 5, none⟩ = some (.int .i64 l.secret) := cell_of_row wb _ 5 _ _ _ hL; have l6 : wb.cell? ⟨w.heap.size + 1, 6, none⟩ = some (.bool l.out) := cell_of_row wb _ 6 _ _ _ hL; obtain ⟨a0, a1, a2, a3, a4, a5, a6, a7, a8, a9⟩ := cells10 hR
  have fA : ∀ j, wb.frozen? ⟨w.heap.size + 1 + 1, j, none⟩ = false := fun j => frozen_of_row wb _ j _ _ hR
  clear hB hL hR hW hv
  go_upto_region 11 with fail
  have hT3 : (wb.alloc (.cells #[.int .i64 s.role, .int .i64 s.step, .int .i64 s.sent, .int .i64 s.got, .int .i64 s.prev, .int .i64 s.skip, .int .i64 s.cap, .int .i64 s.secret, .int .i64 pe, .slice aa s.kept.length cc] 38)).heap[w.heap.size + 1 + 1 + 1]? = some (.cells #[.int .i64 s.role, .int .i64 s.step, .int .i64 s.sent, .int .i64 s.got, .int .i64 s.prev, .int .i64 s.skip, .int .i64 s.cap, .int .i64 s.secret, .int .i64 pe, .slice aa s.kept.length cc] 38) := by
    have := heap_alloc_new wb (.cells #[.int .i64 s.role, .int .i64 s.step, .int .i64 s.sent, .int .i64 s.got, .int .i64 s.prev, .int .i64 s.skip, .int .i64 s.cap, .int .i64 s.secret, .int .i64 pe, .slice aa s.kept.length cc] 38)
    rw [hlt] at this
    exact this
  have hA3 : Below wb.heap.size wb (wb.alloc (.cells #[.int .i64 s.role, .int .i64 s.step, .int .i64 s.sent, .int .i64 s.got, .int .i64 s.prev, .int .i64 s.skip, .int .i64 s.cap, .int .i64 s.secret, .int .i64 pe, .slice aa s.kept.length cc] 38)) := (Below.refl _ _).alloc (Nat.le_refl _) _
  have hs3 : w.heap.size + 1 + 1 + 1 < (wb.alloc (.cells #[.int .i64 s.role, .int .i64 s.step, .int .i64 s.sent, .int .i64 s.got, .int .i64 s.prev, .int .i64 s.skip, .int .i64 s.cap, .int .i64 s.secret, .int .i64 pe, .slice aa s.kept.length cc] 38)).heap.size := by simp; omega
  clear k0 k1 k2 k3 k4 k5 k6 k7 k8 k9 l0 l1 l2 l3 l4 l5 l6 a0 a1 a2 a3 a4 a5 a6 a7 a8 a9 fA
  generalize (wb.alloc (.cells #[.int .i64 s.role, .int .i64 s.step, .int .i64 s.sent, .int .i64 s.got, .int .i64 s.prev, .int .i64 s.skip, .int .i64 s.cap, .int .i64 s.secret, .int .i64 pe, .slice aa s.kept.length cc] 38)) = w3 at hT3 hA3 hs3 ⊢
  have HB3 := hid ((hA3.block w.heap.size (by omega)).trans HB.out)
  have HL3 := hid ((hA3.block (w.heap.size + 1) (by omega)).trans HL.out)
  have HR3 := hid ((hA3.block (w.heap.size + 1 + 1) (by omega)).trans HR.out)
  have HW3 := hid (below_tr HW.out hA3); have HI3 := hid (HV.out.next hA3); have HT3 := hid hT3; clear hT3 hA3 HB HL HR HV; obtain ⟨k0, k1, k2, k3, k4, k5, k6, k7, k8, k9⟩ := cells10 HB3.out; obtain ⟨t0, t1, t2, t3, t4, t5, t6, t7, t8, t9⟩ := cells10 HT3.out; have l4 : w3.cell? ⟨w.heap.size + 1, 4, none⟩ = some (.int .i64 l.prev) := cell_of_row w3 _ 4 _ _ _ HL3.out
  go_upto_region 12 with (first | (go_at_call 48; go_must (with_reducible refine (cp _ HI3.out).mono ?_); rintro e w5 ⟨⟨a2v, c2v, rfl, hI5, hF5⟩, hb5⟩; have hTx := (hb5.block (w.heap.size + 1 + 1 + 1) (by omega)).trans HT3.out; obtain ⟨u0, u1, u2, u3, u4, u5, u6, u7, u8, u9⟩ := cells10 hTx; have fT5 : ∀ j, w5.frozen? ⟨w.heap.size + 1 + 1 + 1, j, none⟩ = false := fun j => frozen_of_row w5 _ j _ _ hTx; clear hTx))
  have hsz5 := hb5.size
  have hT5 := (hb5.block (w.heap.size + 1 + 1 + 1) (by omega)).trans HT3.out
  have hB5 := (hb5.block w.heap.size (by omega)).trans HB3.out
  have hL5 := (hb5.block (w.heap.size + 1) (by omega)).trans HL3.out
  have hR5 := (hb5.block (w.heap.size + 1 + 1) (by omega)).trans HR3.out
  obtain ⟨w6, hw6, hX6, hN6⟩ := store10 hT5 (.int .i64 s.role) (.int .i64 s.step) (.int .i64 s.sent) (.int .i64 s.got) (.int .i64 s.prev) (.int .i64 s.skip) (.int .i64 s.cap) (.int .i64 s.secret) (.int .i64 pe) (.slice a2v (passS s l.prev).kept.length c2v); rw [← hw6]; clear hw6; have hsz6 := hN6.size
  have hB6 := (hN6.block w.heap.size (by omega) (by omega)).trans hB5
  have hL6 := (hN6.block (w.heap.size + 1) (by omega) (by omega)).trans hL5
  have hR6 := (hN6.block (w.heap.size + 1 + 1) (by omega) (by omega)).trans hR5
  have hI6 := hI5.only hN6 (fun _ k hk q => by have := hF5 k hk; omega)
  have HW6 : Hid (Below w.heap.size w w6) := (below_tr HW3.out hb5).trans (hN6.below (by omega) (fun k q => by omega))
  have HF5 := hid hF5; clear hT5 hB5 hL5 hR5 hI5 hb5 cp fT5 u0 u1 u2 u3 u4 u5 u6 u7 u8 u9 k0 k1 k2 k3 k4 k5 k6 k7 k8 k9 t0 t1 t2 t3 t4 t5 t6 t7 t8 t9 l4 hF5; obtain ⟨k0, k1, k2, k3, k4, k5, k6, k7, k8, k9⟩ := cells10 hB6; obtain ⟨a0, a1, a2, a3, a4, a5, a6, a7, a8, a9⟩ := cells10 hR6
  have fA : ∀ j, w6.frozen? ⟨w.heap.size + 1 + 1, j, none⟩ = false := fun j => frozen_of_row w6 _ j _ _ hR6
  clear hB6 hL6 hR6 hX6 hI6 hN6; go_wp2
  (try simp only [Exit.inBlock, Exit.then])
  refine bodyPost_ret (v := .tuple #[.agg #[.int .i64 s.role, .int .i64 s.step, .int .i64 s.sent, .int .i64 s.got, .int .i64 s.prev, .int .i64 s.skip, .int .i64 s.cap, .int .i64 s.secret, .int .i64 pe, .slice aa s.kept.length cc], .int .i64 17]) ?_ ?_ ?_
  · rw [results_cell_tmp (fn := Try.f31) rfl]; simp [go_sem, a0, a1, a2, a3, a4, a5, a6, a7, a8, a9]
  · rfl
  · refine ⟨.inl ⟨by rw [HK.out]; simp, by rw [HK.out]; rfl⟩, ?_⟩
    repeat (with_reducible refine Below.setCell ?_ (by exact Nat.le_add_right _ 2) _)
    exact HW6.out
theorem mt_turn2 (s : StM) (pe : Int) (aa : Option Addr) (cc : Nat) (l : LtM) (pub dn : Nat) (w : World) (hv : IdsAt w (.slice aa s.kept.length cc) s.kept) (hq : LawQ s) (hkc : s.kept.length ≤ s.cap) (hf : ¬ (s.step + 1 < l.step ∨ l.step % 2 = s.step % 2)) (h1 : 1 ≤ l.step) (hc : l.count ≤ 49) (hp : l.prev ≤ 50) (ho : l.step = s.step + 1) (hs2 : 2 ≤ s.step) (hbad : ¬ skipBad s l.prev) :
    Calls Try.prog 31 #[.agg #[.int .i64 s.role, .int .i64 s.step, .int .i64 s.sent, .int .i64 s.got, .int .i64 s.prev, .int .i64 s.skip, .int .i64 s.cap, .int .i64 s.secret, .int .i64 pe, .slice aa s.kept.length cc], .agg #[.string (str l.bytes), .string (str l.text), .int .i64 l.step, .int .i64 l.count, .int .i64 l.prev, .int .i64 l.secret, .bool l.out], .int .i64 dn] w fun e w' => BookOut w.heap.size s pe (.slice aa s.kept.length cc) (keyR s (letQ l.step l.count l.prev pub) dn) (l.secret : Int) w' e ∧ Below w.heap.size w w' := by
  have hst := hq.step; have hcap := hq.cap; have hgot := hq.got; have hsent := hq.sent
  have HTU : Hid (turnR s (letQ l.step l.count l.prev pub) dn = if 2 ≤ s.step ∧ skipBad s l.prev then (17, [], s) else dueR (turnS (endS s l.prev) l.step pub dn) l.count) := by
    show _ = _
    rw [turnR]; rfl
  have HKT : Hid ((keyR s (letQ l.step l.count l.prev pub) dn) = turnR s (letQ l.step l.count l.prev pub) dn) := by
    show _ = _
    rw [keyR, if_neg (show ¬ (s.step + 1 < (letQ l.step l.count l.prev pub).step ∨ (letQ l.step l.count l.prev pub).step % 2 = s.step % 2) from hf), if_pos (show (letQ l.step l.count l.prev pub).step = s.step + 1 from ho)]
  obtain ⟨s1, hs1⟩ : ∃ s1, s1 = turnS (endS s l.prev) l.step pub dn := ⟨_, rfl⟩
  obtain ⟨z1, z2, z3, z4, z5, z6, z7⟩ := endS_step s l.prev
  have HQ : Hid ((s1.role : Int) = (s.role : Int) ∧ (s1.step : Int) = (l.step : Int) + 1 ∧ (s1.sent : Int) = 0 ∧ (s1.got : Int) = 0 ∧ (s1.prev : Int) = (s.sent : Int) ∧ (s1.skip : Int) = (s.skip : Int) ∧ (s1.cap : Int) = (s.cap : Int) ∧ (s1.secret : Int) = (dn : Int)) := by
    rw [hs1]
    refine ⟨?_, ?_, rfl, rfl, ?_, ?_, ?_, rfl⟩
    · show ((endS s l.prev).role : Int) = _; rw [z5]
    · show ((l.step + 1 : Nat) : Int) = _; omega
    · show ((endS s l.prev).sent : Int) = _; rw [z4]
    · show ((endS s l.prev).skip : Int) = _; rw [z2]
    · show ((endS s l.prev).cap : Int) = _; rw [z3]
  have HKE : Hid (s1.kept = (endS s l.prev).kept) := by
    show _ = _
    rw [hs1]; rfl
  have hkl : ∀ e ∈ (endS s l.prev).kept, e.step < s.step := by
    intro e he
    rw [endS] at he
    by_cases h2q : 2 ≤ s.step
    · rw [if_pos h2q] at he
      rcases List.mem_append.1 he with he | he
      · exact (hq.keys.lo e he).2.1
      · have := (spanL_mem _ _ _ _ e he).1; omega
    · rw [if_neg h2q] at he
      exact (hq.keys.lo e he).2.1
  have HOF1 : Hid (ofL s1.kept l.step ≤ s1.skip) := by
    show _ ≤ _
    rw [HKE.out, ofL_none (fun e he => by have := hkl e he; omega)]; omega
  have h200 : s1.kept.length ≤ 200 := by
    rw [HKE.out, endS]
    by_cases h2q : 2 ≤ s.step
    · rw [if_pos h2q]
      show (s.kept ++ spanL _ _ _ _).length ≤ 200
      rw [List.length_append, spanL_length]; omega
    · rw [if_neg h2q]; omega
  have HS1 : Hid (s1.step = l.step + 1) := by
    show _ = _
    have := HQ.out.2.1; omega
  have hg1 : s1.got ≤ 1000 := by have := HQ.out.2.2.2.1; omega
  have hst1 : s1.step ≤ 1000 := by have := HS1.out; omega
  have HK1 : Hid ((keyR s (letQ l.step l.count l.prev pub) dn) = dueR s1 l.count) := by
    show _ = _
    rw [HKT.out, HTU.out, if_neg (fun q => hbad q.2), hs1]
  have HKK : Hid (s1.kept = (passS s l.prev).kept) := by
    show _ = _
    rw [HKE.out, endS, if_pos hs2]
  obtain ⟨sp, hsp⟩ : ∃ sp, s.step = sp + 1 := ⟨s.step - 1, by omega⟩
  have cp := fun w hv => passed_ok s pe aa cc l.prev sp w hv (by omega) hsp (by omega) (by omega) (by omega) (ofL_skip hq.keys.of sp) hbad
  have n1 : decide ((l.step : Int) < (s.step : Int) - 1) = false := by rw [decide_eq_false_iff_not]; omega
  have n1' : ¬ (l.step : Int) < (s.step : Int) - 1 := by omega
  have wst := wrap_i64 ((s.step : Int) - 1) (by omega) (by omega)
  have wst2 := wrap_i64 ((s.step : Int) + 1) (by omega) (by omega)
  have n2 : ((l.step : Int) == (s.step : Int) - 1) = false := by rw [beq_eq_false_iff_ne]; omega
  have n4 : ((l.step : Int) == (s.step : Int) + 1) = true := by rw [beq_iff_eq]; omega
  have n5 : (1 : Int) < (s.step : Int) := by omega
  have wls := wrap_i64 ((l.step : Int) + 1) (by omega) (by omega)
  clear hq hf ho hs2 hbad hs1 z1 z2 z3 z4 z5 z6 z7 hkl hsp
  go_enter Try.func31, Try.ntmps31
  go_upto_region 1 with fail
  obtain ⟨wb, ewb, hB, hL, hR, hW, hlt⟩ := alloc3e w (.cells #[.int .i64 s.role, .int .i64 s.step, .int .i64 s.sent, .int .i64 s.got, .int .i64 s.prev, .int .i64 s.skip, .int .i64 s.cap, .int .i64 s.secret, .int .i64 pe, .slice aa s.kept.length cc] 38) (.cells #[.string (str l.bytes), .string (str l.text), .int .i64 l.step, .int .i64 l.count, .int .i64 l.prev, .int .i64 l.secret, .bool l.out] 63) (.cells #[.int .i64 0, .int .i64 0, .int .i64 0, .int .i64 0, .int .i64 0, .int .i64 0, .int .i64 0, .int .i64 0, .int .i64 0, .slice none 0 0] 38); rw [← ewb]; clear ewb; have HV := hid (hv.next hW); have HB := hid hB; have HL := hid hL; have HR := hid hR; have HW := hid hW; obtain ⟨k0, k1, k2, k3, k4, k5, k6, k7, k8, k9⟩ := cells10 hB; have l0 : wb.cell? ⟨w.heap.size + 1, 0, none⟩ = some (.string (str l.bytes)) := cell_of_row wb _ 0 _ _ _ hL; have l1 : wb.cell? ⟨w.heap.size + 1, 1, none⟩ = some (.string (str l.text)) := cell_of_row wb _ 1 _ _ _ hL; have l2 : wb.cell? ⟨w.heap.size + 1, 2, none⟩ = some (.int .i64 l.step) := cell_of_row wb _ 2 _ _ _ hL; have l3 : wb.cell? ⟨w.heap.size + 1, 3, none⟩ = some (.int .i64 l.count) := cell_of_row wb _ 3 _ _ _ hL; have l4 : wb.cell? ⟨w.heap.size + 1, 4, none⟩ = some (.int .i64 l.prev) := cell_of_row wb _ 4 _ _ _ hL; have l5 : wb.cell? ⟨w.heap.size + 1, 5, none⟩ = some (.int .i64 l.secret) := cell_of_row wb _ 5 _ _ _ hL; have l6 : wb.cell? ⟨w.heap.size + 1, 6, none⟩ = some (.bool l.out) := cell_of_row wb _ 6 _ _ _ hL; obtain ⟨a0, a1, a2, a3, a4, a5, a6, a7, a8, a9⟩ := cells10 hR
  have fA : ∀ j, wb.frozen? ⟨w.heap.size + 1 + 1, j, none⟩ = false := fun j => frozen_of_row wb _ j _ _ hR
  clear hB hL hR hW hv
  go_upto_region 11 with fail
  have hT3 : (wb.alloc (.cells #[.int .i64 s.role, .int .i64 s.step, .int .i64 s.sent, .int .i64 s.got, .int .i64 s.prev, .int .i64 s.skip, .int .i64 s.cap, .int .i64 s.secret, .int .i64 pe, .slice aa s.kept.length cc] 38)).heap[w.heap.size + 1 + 1 + 1]? = some (.cells #[.int .i64 s.role, .int .i64 s.step, .int .i64 s.sent, .int .i64 s.got, .int .i64 s.prev, .int .i64 s.skip, .int .i64 s.cap, .int .i64 s.secret, .int .i64 pe, .slice aa s.kept.length cc] 38) := by
    have := heap_alloc_new wb (.cells #[.int .i64 s.role, .int .i64 s.step, .int .i64 s.sent, .int .i64 s.got, .int .i64 s.prev, .int .i64 s.skip, .int .i64 s.cap, .int .i64 s.secret, .int .i64 pe, .slice aa s.kept.length cc] 38)
    rw [hlt] at this
    exact this
  have hA3 : Below wb.heap.size wb (wb.alloc (.cells #[.int .i64 s.role, .int .i64 s.step, .int .i64 s.sent, .int .i64 s.got, .int .i64 s.prev, .int .i64 s.skip, .int .i64 s.cap, .int .i64 s.secret, .int .i64 pe, .slice aa s.kept.length cc] 38)) := (Below.refl _ _).alloc (Nat.le_refl _) _
  have hs3 : w.heap.size + 1 + 1 + 1 < (wb.alloc (.cells #[.int .i64 s.role, .int .i64 s.step, .int .i64 s.sent, .int .i64 s.got, .int .i64 s.prev, .int .i64 s.skip, .int .i64 s.cap, .int .i64 s.secret, .int .i64 pe, .slice aa s.kept.length cc] 38)).heap.size := by simp; omega
  clear k0 k1 k2 k3 k4 k5 k6 k7 k8 k9 l0 l1 l2 l3 l4 l5 l6 a0 a1 a2 a3 a4 a5 a6 a7 a8 a9 fA
  generalize (wb.alloc (.cells #[.int .i64 s.role, .int .i64 s.step, .int .i64 s.sent, .int .i64 s.got, .int .i64 s.prev, .int .i64 s.skip, .int .i64 s.cap, .int .i64 s.secret, .int .i64 pe, .slice aa s.kept.length cc] 38)) = w3 at hT3 hA3 hs3 ⊢
  have HB3 := hid ((hA3.block w.heap.size (by omega)).trans HB.out)
  have HL3 := hid ((hA3.block (w.heap.size + 1) (by omega)).trans HL.out)
  have HR3 := hid ((hA3.block (w.heap.size + 1 + 1) (by omega)).trans HR.out)
  have HW3 := hid (below_tr HW.out hA3); have HI3 := hid (HV.out.next hA3); have HT3 := hid hT3; clear hT3 hA3 HB HL HR HV; obtain ⟨k0, k1, k2, k3, k4, k5, k6, k7, k8, k9⟩ := cells10 HB3.out; obtain ⟨t0, t1, t2, t3, t4, t5, t6, t7, t8, t9⟩ := cells10 HT3.out; have l4 : w3.cell? ⟨w.heap.size + 1, 4, none⟩ = some (.int .i64 l.prev) := cell_of_row w3 _ 4 _ _ _ HL3.out
  go_upto_region 12 with (first | (go_at_call 48; go_must (with_reducible refine (cp _ HI3.out).mono ?_); rintro e w5 ⟨⟨a2v, c2v, rfl, hI5, hF5⟩, hb5⟩; have hTx := (hb5.block (w.heap.size + 1 + 1 + 1) (by omega)).trans HT3.out; obtain ⟨u0, u1, u2, u3, u4, u5, u6, u7, u8, u9⟩ := cells10 hTx; have fT5 : ∀ j, w5.frozen? ⟨w.heap.size + 1 + 1 + 1, j, none⟩ = false := fun j => frozen_of_row w5 _ j _ _ hTx; clear hTx))
  have hsz5 := hb5.size
  have hT5 := (hb5.block (w.heap.size + 1 + 1 + 1) (by omega)).trans HT3.out
  have hB5 := (hb5.block w.heap.size (by omega)).trans HB3.out
  have hL5 := (hb5.block (w.heap.size + 1) (by omega)).trans HL3.out
  have hR5 := (hb5.block (w.heap.size + 1 + 1) (by omega)).trans HR3.out
  obtain ⟨w6, hw6, hX6, hN6⟩ := store10 hT5 (.int .i64 s.role) (.int .i64 s.step) (.int .i64 s.sent) (.int .i64 s.got) (.int .i64 s.prev) (.int .i64 s.skip) (.int .i64 s.cap) (.int .i64 s.secret) (.int .i64 pe) (.slice a2v (passS s l.prev).kept.length c2v); rw [← hw6]; clear hw6; have hsz6 := hN6.size
  have hB6 := (hN6.block w.heap.size (by omega) (by omega)).trans hB5
  have hL6 := (hN6.block (w.heap.size + 1) (by omega) (by omega)).trans hL5
  have hR6 := (hN6.block (w.heap.size + 1 + 1) (by omega) (by omega)).trans hR5
  have hI6 := hI5.only hN6 (fun _ k hk q => by have := hF5 k hk; omega)
  have HW6 : Hid (Below w.heap.size w w6) := (below_tr HW3.out hb5).trans (hN6.below (by omega) (fun k q => by omega))
  have HF5 := hid hF5; clear hT5 hB5 hL5 hR5 hI5 hb5 cp fT5 u0 u1 u2 u3 u4 u5 u6 u7 u8 u9 k0 k1 k2 k3 k4 k5 k6 k7 k8 k9 t0 t1 t2 t3 t4 t5 t6 t7 t8 t9 l4 hF5; have HX6 := hid hX6; have HB6 := hid hB6; have HL6 := hid hL6; have HR6 := hid hR6; have HI6 := hid hI6; obtain ⟨t0, t1, t2, t3, t4, t5, t6, t7, t8, t9⟩ := cells10 hX6
  have fT : ∀ j, w6.frozen? ⟨w.heap.size + 1 + 1 + 1, j, none⟩ = false := fun j => frozen_of_row w6 _ j _ _ hX6
  have k2 : w6.cell? ⟨w.heap.size, 2, none⟩ = some (.int .i64 s.sent) := cell_of_row w6 _ 2 _ _ _ hB6; have l2 : w6.cell? ⟨w.heap.size + 1, 2, none⟩ = some (.int .i64 l.step) := cell_of_row w6 _ 2 _ _ _ hL6; have l5 : w6.cell? ⟨w.heap.size + 1, 5, none⟩ = some (.int .i64 l.secret) := cell_of_row w6 _ 5 _ _ _ hL6; clear hX6 hB6 hL6 hR6 hI6 hN6
  go_upto_region 20 with fail
  clear t0 t1 t2 t3 t4 t5 t6 t7 t8 t9 fT k2 l2 l5; have hXq0 : (w6.setCell ⟨w.heap.size + 1 + 1 + 1, 4, none⟩ (.int .i64 s.sent)).heap[w.heap.size + 1 + 1 + 1]? = some (.cells #[.int .i64 s.role, .int .i64 s.step, .int .i64 s.sent, .int .i64 s.got, .int .i64 s.sent, .int .i64 s.skip, .int .i64 s.cap, .int .i64 s.secret, .int .i64 pe, .slice a2v (passS s l.prev).kept.length c2v] 38) := heap_setCell_same _ _ _ _ _ _ HX6.out
  have hNq0 : Only (fun k => k = w.heap.size + 1 + 1 + 1) w6 (w6.setCell ⟨w.heap.size + 1 + 1 + 1, 4, none⟩ (.int .i64 s.sent)) := Only.set (S := fun k => k = w.heap.size + 1 + 1 + 1) (Only.refl _ _) rfl _
  generalize (w6.setCell ⟨w.heap.size + 1 + 1 + 1, 4, none⟩ (.int .i64 s.sent)) = wq0 at hXq0 hNq0 ⊢
  have hXq1 : (wq0.setCell ⟨w.heap.size + 1 + 1 + 1, 2, none⟩ (.int .i64 0)).heap[w.heap.size + 1 + 1 + 1]? = some (.cells #[.int .i64 s.role, .int .i64 s.step, .int .i64 0, .int .i64 s.got, .int .i64 s.sent, .int .i64 s.skip, .int .i64 s.cap, .int .i64 s.secret, .int .i64 pe, .slice a2v (passS s l.prev).kept.length c2v] 38) := heap_setCell_same _ _ _ _ _ _ hXq0
  have hNq1 : Only (fun k => k = w.heap.size + 1 + 1 + 1) wq0 (wq0.setCell ⟨w.heap.size + 1 + 1 + 1, 2, none⟩ (.int .i64 0)) := Only.set (S := fun k => k = w.heap.size + 1 + 1 + 1) (Only.refl _ _) rfl _
  generalize (wq0.setCell ⟨w.heap.size + 1 + 1 + 1, 2, none⟩ (.int .i64 0)) = wq1 at hXq1 hNq1 ⊢
  have hXq2 : (wq1.setCell ⟨w.heap.size + 1 + 1 + 1, 3, none⟩ (.int .i64 0)).heap[w.heap.size + 1 + 1 + 1]? = some (.cells #[.int .i64 s.role, .int .i64 s.step, .int .i64 0, .int .i64 0, .int .i64 s.sent, .int .i64 s.skip, .int .i64 s.cap, .int .i64 s.secret, .int .i64 pe, .slice a2v (passS s l.prev).kept.length c2v] 38) := heap_setCell_same _ _ _ _ _ _ hXq1
  have hNq2 : Only (fun k => k = w.heap.size + 1 + 1 + 1) wq1 (wq1.setCell ⟨w.heap.size + 1 + 1 + 1, 3, none⟩ (.int .i64 0)) := Only.set (S := fun k => k = w.heap.size + 1 + 1 + 1) (Only.refl _ _) rfl _
  generalize (wq1.setCell ⟨w.heap.size + 1 + 1 + 1, 3, none⟩ (.int .i64 0)) = wq2 at hXq2 hNq2 ⊢
  have hXq3 : (wq2.setCell ⟨w.heap.size + 1 + 1 + 1, 1, none⟩ (.int .i64 ((l.step : Int) + 1))).heap[w.heap.size + 1 + 1 + 1]? = some (.cells #[.int .i64 s.role, .int .i64 ((l.step : Int) + 1), .int .i64 0, .int .i64 0, .int .i64 s.sent, .int .i64 s.skip, .int .i64 s.cap, .int .i64 s.secret, .int .i64 pe, .slice a2v (passS s l.prev).kept.length c2v] 38) := heap_setCell_same _ _ _ _ _ _ hXq2
  have hNq3 : Only (fun k => k = w.heap.size + 1 + 1 + 1) wq2 (wq2.setCell ⟨w.heap.size + 1 + 1 + 1, 1, none⟩ (.int .i64 ((l.step : Int) + 1))) := Only.set (S := fun k => k = w.heap.size + 1 + 1 + 1) (Only.refl _ _) rfl _
  generalize (wq2.setCell ⟨w.heap.size + 1 + 1 + 1, 1, none⟩ (.int .i64 ((l.step : Int) + 1))) = wq3 at hXq3 hNq3 ⊢
  have hXq4 : (wq3.setCell ⟨w.heap.size + 1 + 1 + 1, 7, none⟩ (.int .i64 dn)).heap[w.heap.size + 1 + 1 + 1]? = some (.cells #[.int .i64 s.role, .int .i64 ((l.step : Int) + 1), .int .i64 0, .int .i64 0, .int .i64 s.sent, .int .i64 s.skip, .int .i64 s.cap, .int .i64 dn, .int .i64 pe, .slice a2v (passS s l.prev).kept.length c2v] 38) := heap_setCell_same _ _ _ _ _ _ hXq3
  have hNq4 : Only (fun k => k = w.heap.size + 1 + 1 + 1) wq3 (wq3.setCell ⟨w.heap.size + 1 + 1 + 1, 7, none⟩ (.int .i64 dn)) := Only.set (S := fun k => k = w.heap.size + 1 + 1 + 1) (Only.refl _ _) rfl _
  generalize (wq3.setCell ⟨w.heap.size + 1 + 1 + 1, 7, none⟩ (.int .i64 dn)) = wq4 at hXq4 hNq4 ⊢
  have hXq5 : (wq4.setCell ⟨w.heap.size + 1 + 1 + 1, 8, none⟩ (.int .i64 l.secret)).heap[w.heap.size + 1 + 1 + 1]? = some (.cells #[.int .i64 s.role, .int .i64 ((l.step : Int) + 1), .int .i64 0, .int .i64 0, .int .i64 s.sent, .int .i64 s.skip, .int .i64 s.cap, .int .i64 dn, .int .i64 l.secret, .slice a2v (passS s l.prev).kept.length c2v] 38) := heap_setCell_same _ _ _ _ _ _ hXq4
  have hNq5 : Only (fun k => k = w.heap.size + 1 + 1 + 1) wq4 (wq4.setCell ⟨w.heap.size + 1 + 1 + 1, 8, none⟩ (.int .i64 l.secret)) := Only.set (S := fun k => k = w.heap.size + 1 + 1 + 1) (Only.refl _ _) rfl _
  generalize (wq4.setCell ⟨w.heap.size + 1 + 1 + 1, 8, none⟩ (.int .i64 l.secret)) = wq5 at hXq5 hNq5 ⊢
  have hNallq : Only (fun k => k = w.heap.size + 1 + 1 + 1) w6 wq5 := (((((hNq0).trans hNq1).trans hNq2).trans hNq3).trans hNq4).trans hNq5
  have hs4 : w.heap.size + 1 + 1 + 1 < wq5.heap.size := by have := hNallq.size; omega
  have HB4 := hid ((hNallq.block w.heap.size (by omega) (by omega)).trans HB6.out)
  have HL4 := hid ((hNallq.block (w.heap.size + 1) (by omega) (by omega)).trans HL6.out)
  have HR4 := hid ((hNallq.block (w.heap.size + 1 + 1) (by omega) (by omega)).trans HR6.out)
  have HW4 : Hid (Below w.heap.size w wq5) := HW6.out.trans (hNallq.below (by omega) (fun k q => by omega))
  have hI9 := HI6.out.only hNallq (fun _ k hk q => by have := HF5.out k hk; omega)
  have HI4 : Hid (IdsAt wq5 (.slice a2v s1.kept.length c2v) s1.kept) := by
    show IdsAt _ _ _
    rw [HKK.out]; exact hI9
  have HT4 : Hid (wq5.heap[w.heap.size + 1 + 1 + 1]? = some (.cells #[.int .i64 s1.role, .int .i64 s1.step, .int .i64 s1.sent, .int .i64 s1.got, .int .i64 s1.prev, .int .i64 s1.skip, .int .i64 s1.cap, .int .i64 s1.secret, .int .i64 l.secret, .slice a2v s1.kept.length c2v] 38)) := by
    show _ = _
    obtain ⟨q0, q1, q2, q3, q4, q5, q6, q7⟩ := HQ.out
    rw [q0, q1, q2, q3, q4, q5, q6, q7, HKK.out]; exact hXq5
  generalize wq5 = w4 at hs4 HB4 HL4 HR4 HW4 HI4 HT4 ⊢
  clear hNallq hI9 HX6 HB6 HL6 HR6 HI6 HW6 HF5 HQ HKE HKK HTU HKT HB3 HL3 HR3 HT3 HI3 HW3; have hof1 : ofL s1.kept l.step ≤ s1.skip := HOF1.out; have y3l : w4.cell? ⟨w.heap.size + 1, 3, none⟩ = some (.int .i64 l.count) := cell_of_row w4 _ 3 _ _ _ HL4.out; obtain ⟨y0, y1, y2, y3, y4, y5, y6, y7, y8, y9⟩ := cells10 HT4.out
  have fT : ∀ j, w4.frozen? ⟨w.heap.size + 1 + 1 + 1, j, none⟩ = false := fun j => frozen_of_row w4 _ j _ _ HT4.out
  by_cases hbad : skipBad s1 l.count
  · have cp := fun w hv => passed_bad s1 (l.secret : Int) a2v c2v l.count l.step w hv h200 HS1.out hst1 hg1 (by omega) hbad
    have HK : Hid ((keyR s (letQ l.step l.count l.prev pub) dn).1 = 17) := by
      show _ = _
      rw [HK1.out, dueR, if_pos hbad]
    clear hbad
    go_upto_region 21 with (first | (go_at_call 48; go_must (with_reducible refine (cp _ HI4.out).mono ?_); rintro e w5 ⟨⟨yv, yc, rfl, hI5, hF5⟩, hb5⟩; have hTx := (hb5.block (w.heap.size + 1 + 1 + 1) (by omega)).trans HT4.out; obtain ⟨t0, t1, t2, t3, t4, t5, t6, t7, t8, t9⟩ := cells10 hTx; have fT5 : ∀ j, w5.frozen? ⟨w.heap.size + 1 + 1 + 1, j, none⟩ = false := fun j => frozen_of_row w5 _ j _ _ hTx; clear hTx))
    have hsz5 := hb5.size
    have hT5 := (hb5.block (w.heap.size + 1 + 1 + 1) (by omega)).trans HT4.out
    have hB5 := (hb5.block w.heap.size (by omega)).trans HB4.out
    have hL5 := (hb5.block (w.heap.size + 1) (by omega)).trans HL4.out
    have hR5 := (hb5.block (w.heap.size + 1 + 1) (by omega)).trans HR4.out
    obtain ⟨w6, hw6, hX6, hN6⟩ := store10 hT5 (.int .i64 s1.role) (.int .i64 s1.step) (.int .i64 s1.sent) (.int .i64 s1.got) (.int .i64 s1.prev) (.int .i64 s1.skip) (.int .i64 s1.cap) (.int .i64 s1.secret) (.int .i64 l.secret) (.slice yv (passS s1 l.count).kept.length yc); rw [← hw6]; clear hw6; have hsz6 := hN6.size
    have hB6 := (hN6.block w.heap.size (by omega) (by omega)).trans hB5
    have hL6 := (hN6.block (w.heap.size + 1) (by omega) (by omega)).trans hL5
    have hR6 := (hN6.block (w.heap.size + 1 + 1) (by omega) (by omega)).trans hR5
    have hI6 := hI5.only hN6 (fun _ k hk q => by have := hF5 k hk; omega)
    have HW6 : Hid (Below w.heap.size w w6) := (below_tr HW4.out hb5).trans (hN6.below (by omega) (fun k q => by omega))
    have HF5 := hid hF5; clear hT5 hB5 hL5 hR5 hI5 hb5 cp y3l fT fT5 y0 y1 y2 y3 y4 y5 y6 y7 y8 y9 t0 t1 t2 t3 t4 t5 t6 t7 t8 t9 hF5; obtain ⟨k0, k1, k2, k3, k4, k5, k6, k7, k8, k9⟩ := cells10 hB6; obtain ⟨a0, a1, a2, a3, a4, a5, a6, a7, a8, a9⟩ := cells10 hR6
    have fA : ∀ j, w6.frozen? ⟨w.heap.size + 1 + 1, j, none⟩ = false := fun j => frozen_of_row w6 _ j _ _ hR6
    clear hB6 hL6 hR6 hX6 hI6 hN6; go_wp2
    (try simp only [Exit.inBlock, Exit.then])
    refine bodyPost_ret (v := .tuple #[.agg #[.int .i64 s.role, .int .i64 s.step, .int .i64 s.sent, .int .i64 s.got, .int .i64 s.prev, .int .i64 s.skip, .int .i64 s.cap, .int .i64 s.secret, .int .i64 pe, .slice aa s.kept.length cc], .int .i64 17]) ?_ ?_ ?_
    · rw [results_cell_tmp (fn := Try.f31) rfl]; simp [go_sem, a0, a1, a2, a3, a4, a5, a6, a7, a8, a9]
    · rfl
    · refine ⟨.inl ⟨by rw [HK.out]; simp, by rw [HK.out]; rfl⟩, ?_⟩
      repeat (with_reducible refine Below.setCell ?_ (by exact Nat.le_add_right _ 2) _)
      exact HW6.out
  · have cp := fun w hv => passed_ok s1 (l.secret : Int) a2v c2v l.count l.step w hv h200 HS1.out hst1 hg1 (by omega) hof1 hbad
    have HK : Hid ((keyR s (letQ l.step l.count l.prev pub) dn).1 = 0 ∧ (keyR s (letQ l.step l.count l.prev pub) dn).2.2 = dueS s1 l.count) := by
      show _ ∧ _
      rw [HK1.out, dueR, if_neg hbad]; exact ⟨rfl, rfl⟩
    clear hbad
    go_upto_region 21 with (first | (go_at_call 48; go_must (with_reducible refine (cp _ HI4.out).mono ?_); rintro e w5 ⟨⟨yv, yc, rfl, hI5, hF5⟩, hb5⟩; have hTx := (hb5.block (w.heap.size + 1 + 1 + 1) (by omega)).trans HT4.out; obtain ⟨t0, t1, t2, t3, t4, t5, t6, t7, t8, t9⟩ := cells10 hTx; have fT5 : ∀ j, w5.frozen? ⟨w.heap.size + 1 + 1 + 1, j, none⟩ = false := fun j => frozen_of_row w5 _ j _ _ hTx; clear hTx))
    have hsz5 := hb5.size
    have hT5 := (hb5.block (w.heap.size + 1 + 1 + 1) (by omega)).trans HT4.out
    have hB5 := (hb5.block w.heap.size (by omega)).trans HB4.out
    have hL5 := (hb5.block (w.heap.size + 1) (by omega)).trans HL4.out
    have hR5 := (hb5.block (w.heap.size + 1 + 1) (by omega)).trans HR4.out
    obtain ⟨w6, hw6, hX6, hN6⟩ := store10 hT5 (.int .i64 s1.role) (.int .i64 s1.step) (.int .i64 s1.sent) (.int .i64 s1.got) (.int .i64 s1.prev) (.int .i64 s1.skip) (.int .i64 s1.cap) (.int .i64 s1.secret) (.int .i64 l.secret) (.slice yv (passS s1 l.count).kept.length yc); rw [← hw6]; clear hw6; have hsz6 := hN6.size
    have hB6 := (hN6.block w.heap.size (by omega) (by omega)).trans hB5
    have hL6 := (hN6.block (w.heap.size + 1) (by omega) (by omega)).trans hL5
    have hR6 := (hN6.block (w.heap.size + 1 + 1) (by omega) (by omega)).trans hR5
    have hI6 := hI5.only hN6 (fun _ k hk q => by have := hF5 k hk; omega)
    have HW6 : Hid (Below w.heap.size w w6) := (below_tr HW4.out hb5).trans (hN6.below (by omega) (fun k q => by omega))
    have HF5 := hid hF5; clear hT5 hB5 hL5 hR5 hI5 hb5 cp y3l fT fT5 y0 y1 y2 y3 y4 y5 y6 y7 y8 y9 t0 t1 t2 t3 t4 t5 t6 t7 t8 t9 hF5; have y3l : w6.cell? ⟨w.heap.size + 1, 3, none⟩ = some (.int .i64 l.count) := cell_of_row w6 _ 3 _ _ _ hL6; have y3t : w6.cell? ⟨w.heap.size + 1 + 1 + 1, 3, none⟩ = some (.int .i64 s1.got) := cell_of_row w6 _ 3 _ _ _ hX6
    have fT : ∀ j, w6.frozen? ⟨w.heap.size + 1 + 1 + 1, j, none⟩ = false := fun j => frozen_of_row w6 _ j _ _ hX6
    have hwc := wrap_i64 ((l.count : Int) + 1) (by omega) (by omega)
    go_upto_region 24 with fail
    have hX7 : (w6.setCell ⟨w.heap.size + 1 + 1 + 1, 3, none⟩ (.int .i64 ((l.count : Int) + 1))).heap[w.heap.size + 1 + 1 + 1]? = some (.cells #[.int .i64 s1.role, .int .i64 s1.step, .int .i64 s1.sent, .int .i64 ((l.count : Int) + 1), .int .i64 s1.prev, .int .i64 s1.skip, .int .i64 s1.cap, .int .i64 s1.secret, .int .i64 l.secret, .slice yv (passS s1 l.count).kept.length yc] 38) := heap_setCell_same _ _ _ _ _ _ hX6
    have hN7 : Only (fun k => k = w.heap.size + 1 + 1 + 1) w6 (w6.setCell ⟨w.heap.size + 1 + 1 + 1, 3, none⟩ (.int .i64 ((l.count : Int) + 1))) := Only.set (S := fun k => k = w.heap.size + 1 + 1 + 1) (Only.refl _ _) rfl _
    clear y3l y3t fT
    generalize (w6.setCell ⟨w.heap.size + 1 + 1 + 1, 3, none⟩ (.int .i64 ((l.count : Int) + 1))) = w7 at hX7 hN7 ⊢
    have hsz7 := hN7.size
    have hR7 := (hN7.block (w.heap.size + 1 + 1) (by omega) (by omega)).trans hR6
    have hI7 := hI6.only hN7 (fun _ k hk q => by have := HF5.out k hk; omega)
    have HW7 : Hid (Below w.heap.size w w7) := HW6.out.trans (hN7.below (by omega) (fun k q => by omega))
    have HX7 := hid hX7; have HR7 := hid hR7; clear hX6 hB6 hL6 hR6 hI6 hN6 hN7
    obtain ⟨M, hM⟩ : ∃ M, M = (passS s1 l.count).kept := ⟨_, rfl⟩
    have HM := hid hM
    rw [← hM] at hX7 hI7 HX7 HF5
    have hM200 : M.length ≤ 400 := by
      rw [hM]
      show (s1.kept ++ spanL _ _ _ _).length ≤ 400
      rw [List.length_append, spanL_length]; omega
    clear hM; have y9 : w7.cell? ⟨w.heap.size + 1 + 1 + 1, 9, none⟩ = some (.slice yv M.length yc) := cell_of_row w7 _ 9 _ _ _ hX7; have y6 : w7.cell? ⟨w.heap.size + 1 + 1 + 1, 6, none⟩ = some (.int .i64 s1.cap) := cell_of_row w7 _ 6 _ _ _ hX7; have HI7 := hid hI7
    by_cases hcp : s1.cap < M.length
    · obtain ⟨gb, go, hyv, _⟩ := hI7.at (j := 0) (by omega)
      subst hyv
      have hcpi : (s1.cap : Int) < (M.length : Int) := by omega
      have hdr := hI7.drop (n := M.length - s1.cap) (by omega) (by omega)
      have hyc : M.length ≤ yc ∧ yc ≤ maxLen := by
        rcases hI7 with ⟨q, _⟩ | ⟨_, _, cap', q1, q2, q3, _⟩
        · rw [q] at hcp; simp at hcp
        · injection q1 with _ _ q1
          subst q1; exact ⟨q2, q3⟩
      obtain ⟨hyc1, hyc2⟩ := hyc
      unfold maxLen at hyc2
      have hw1 := wrap_i64 ((M.length : Int) - (s1.cap : Int)) (by omega) (by omega)
      have e2 : ((M.length : Int) - (s1.cap : Int)).toNat = M.length - s1.cap := by omega
      have zz1 : (0 : Int) ≤ (M.length : Int) - (s1.cap : Int) := by omega
      have zz2 : (M.length : Int) - (s1.cap : Int) ≤ (M.length : Int) := by omega
      have zz3 : (M.length : Int) ≤ (yc : Int) := by omega
      have fT : ∀ j, w7.frozen? ⟨w.heap.size + 1 + 1 + 1, j, none⟩ = false := fun j => frozen_of_row w7 _ j _ _ hX7
      clear hX7 hR7 hI7
      by_cases hz : yc = M.length - s1.cap
      · have HDR : Hid (IdsAt w7 (.slice (some ⟨gb, go, none⟩) 0 0) (M.drop (M.length - s1.cap))) := .inl ⟨List.drop_of_length_le (by omega), some ⟨gb, go, none⟩, 0, rfl⟩
        have HZ := hid hz; subst hz; clear hdr
        go_upto_region 26 with fail
        have hX8 : (w7.setCell ⟨w.heap.size + 1 + 1 + 1, 9, none⟩ (.slice (some ⟨gb, go, none⟩) 0 0)).heap[w.heap.size + 1 + 1 + 1]? = some (.cells #[.int .i64 s1.role, .int .i64 s1.step, .int .i64 s1.sent, .int .i64 ((l.count : Int) + 1), .int .i64 s1.prev, .int .i64 s1.skip, .int .i64 s1.cap, .int .i64 s1.secret, .int .i64 l.secret, .slice (some ⟨gb, go, none⟩) 0 0] 38) := heap_setCell_same _ _ _ _ _ _ HX7.out
        have hN8 : Only (fun k => k = w.heap.size + 1 + 1 + 1) w7 (w7.setCell ⟨w.heap.size + 1 + 1 + 1, 9, none⟩ (.slice (some ⟨gb, go, none⟩) 0 0)) := Only.set (S := fun k => k = w.heap.size + 1 + 1 + 1) (Only.refl _ _) rfl _
        clear y9 y6 fT
        generalize (w7.setCell ⟨w.heap.size + 1 + 1 + 1, 9, none⟩ (.slice (some ⟨gb, go, none⟩) 0 0)) = w8 at hX8 hN8 ⊢
        have hsz8 := hN8.size
        have hR8 := (hN8.block (w.heap.size + 1 + 1) (by omega) (by omega)).trans HR7.out
        have HI8 := hid (HDR.out.only hN8 (fun _ k hk q => by have := HF5.out k hk; omega))
        have HW8 : Hid (Below w.heap.size w w8) := HW7.out.trans (hN8.below (by omega) (fun k q => by omega))
        obtain ⟨y0, y1, y2, y3, y4, y5, y6, y7, y8, y9⟩ := cells10 hX8; obtain ⟨a0, a1, a2, a3, a4, a5, a6, a7, a8, a9⟩ := cells10 hR8
        have fA : ∀ j, w8.frozen? ⟨w.heap.size + 1 + 1, j, none⟩ = false := fun j => frozen_of_row w8 _ j _ _ hR8
        clear hX8 hR8 hN8; go_wp2
        (try simp only [Exit.inBlock, Exit.then])
        refine bodyPost_ret (v := .tuple #[.agg #[.int .i64 s1.role, .int .i64 s1.step, .int .i64 s1.sent, .int .i64 ((l.count : Int) + 1), .int .i64 s1.prev, .int .i64 s1.skip, .int .i64 s1.cap, .int .i64 s1.secret, .int .i64 l.secret, .slice (some ⟨gb, go, none⟩) 0 0], .int .i64 0]) ?_ ?_ ?_
        · rw [results_cell_tmp (fn := Try.f31) rfl]; simp [go_sem, a0, a1, a2, a3, a4, a5, a6, a7, a8, a9]
        · rfl
        · have eM : (dueS s1 l.count).kept = M := HM.out.symm
          have eK : (capS (keyR s (letQ l.step l.count l.prev pub) dn).2.2).kept = M.drop (M.length - s1.cap) := by
            rw [HK.out.2]
            show (dueS s1 l.count).kept.drop ((dueS s1 l.count).kept.length - (dueS s1 l.count).cap) = _
            rw [eM]; rfl
          have eL : (capS (keyR s (letQ l.step l.count l.prev pub) dn).2.2).kept.length = 0 := by rw [eK, List.length_drop]; omega
          have eB : ∀ v, bookC (capS (keyR s (letQ l.step l.count l.prev pub) dn).2.2) (l.secret : Int) v = #[.int .i64 s1.role, .int .i64 s1.step, .int .i64 s1.sent, .int .i64 ((l.count : Int) + 1), .int .i64 s1.prev, .int .i64 s1.skip, .int .i64 s1.cap, .int .i64 s1.secret, .int .i64 l.secret, v] := fun v => by
            rw [HK.out.2]; rfl
          refine ⟨.inr ⟨HK.out.1, some ⟨gb, go, none⟩, 0, ?_, ?_, ?_⟩, ?_⟩
          · rw [eB, eL]
          · rw [eL, eK]
            exact HI8.out.only (S := fun k => k = w.heap.size + 1 + 1) (by (repeat (first | (with_reducible refine onlyR_set ?_) | (with_reducible refine Only.drew ?_))); exact Only.refl _ _) (fun _ k hk q => by have := HF5.out k hk; omega)
          · intro k hk
            have := HF5.out k hk
            omega
          · repeat (with_reducible refine Below.setCell ?_ (by exact Nat.le_add_right _ 2) _)
            exact HW8.out
      · have HDR := hid hdr; clear hdr
        go_upto_region 26 with fail
        have hX8 : (w7.setCell ⟨w.heap.size + 1 + 1 + 1, 9, none⟩ (.slice (some ⟨gb, go + (M.length - s1.cap) * 2, none⟩) (M.length - (M.length - s1.cap)) (yc - (M.length - s1.cap)))).heap[w.heap.size + 1 + 1 + 1]? = some (.cells #[.int .i64 s1.role, .int .i64 s1.step, .int .i64 s1.sent, .int .i64 ((l.count : Int) + 1), .int .i64 s1.prev, .int .i64 s1.skip, .int .i64 s1.cap, .int .i64 s1.secret, .int .i64 l.secret, .slice (some ⟨gb, go + (M.length - s1.cap) * 2, none⟩) (M.length - (M.length - s1.cap)) (yc - (M.length - s1.cap))] 38) := heap_setCell_same _ _ _ _ _ _ HX7.out
        have hN8 : Only (fun k => k = w.heap.size + 1 + 1 + 1) w7 (w7.setCell ⟨w.heap.size + 1 + 1 + 1, 9, none⟩ (.slice (some ⟨gb, go + (M.length - s1.cap) * 2, none⟩) (M.length - (M.length - s1.cap)) (yc - (M.length - s1.cap)))) := Only.set (S := fun k => k = w.heap.size + 1 + 1 + 1) (Only.refl _ _) rfl _
        clear y9 y6 fT
        generalize (w7.setCell ⟨w.heap.size + 1 + 1 + 1, 9, none⟩ (.slice (some ⟨gb, go + (M.length - s1.cap) * 2, none⟩) (M.length - (M.length - s1.cap)) (yc - (M.length - s1.cap)))) = w8 at hX8 hN8 ⊢
        have hsz8 := hN8.size
        have hR8 := (hN8.block (w.heap.size + 1 + 1) (by omega) (by omega)).trans HR7.out
        have HI8 := hid (HDR.out.only hN8 (fun _ k hk q => by have := HF5.out k hk; omega))
        have HW8 : Hid (Below w.heap.size w w8) := HW7.out.trans (hN8.below (by omega) (fun k q => by omega))
        obtain ⟨y0, y1, y2, y3, y4, y5, y6, y7, y8, y9⟩ := cells10 hX8; obtain ⟨a0, a1, a2, a3, a4, a5, a6, a7, a8, a9⟩ := cells10 hR8
        have fA : ∀ j, w8.frozen? ⟨w.heap.size + 1 + 1, j, none⟩ = false := fun j => frozen_of_row w8 _ j _ _ hR8
        clear hX8 hR8 hN8; go_wp2
        (try simp only [Exit.inBlock, Exit.then])
        refine bodyPost_ret (v := .tuple #[.agg #[.int .i64 s1.role, .int .i64 s1.step, .int .i64 s1.sent, .int .i64 ((l.count : Int) + 1), .int .i64 s1.prev, .int .i64 s1.skip, .int .i64 s1.cap, .int .i64 s1.secret, .int .i64 l.secret, .slice (some ⟨gb, go + (M.length - s1.cap) * 2, none⟩) (M.length - (M.length - s1.cap)) (yc - (M.length - s1.cap))], .int .i64 0]) ?_ ?_ ?_
        · rw [results_cell_tmp (fn := Try.f31) rfl]; simp [go_sem, a0, a1, a2, a3, a4, a5, a6, a7, a8, a9]
        · rfl
        · have eM : (dueS s1 l.count).kept = M := HM.out.symm
          have eK : (capS (keyR s (letQ l.step l.count l.prev pub) dn).2.2).kept = M.drop (M.length - s1.cap) := by
            rw [HK.out.2]
            show (dueS s1 l.count).kept.drop ((dueS s1 l.count).kept.length - (dueS s1 l.count).cap) = _
            rw [eM]; rfl
          have eL : (capS (keyR s (letQ l.step l.count l.prev pub) dn).2.2).kept.length = (M.length - (M.length - s1.cap)) := by rw [eK, List.length_drop]
          have eB : ∀ v, bookC (capS (keyR s (letQ l.step l.count l.prev pub) dn).2.2) (l.secret : Int) v = #[.int .i64 s1.role, .int .i64 s1.step, .int .i64 s1.sent, .int .i64 ((l.count : Int) + 1), .int .i64 s1.prev, .int .i64 s1.skip, .int .i64 s1.cap, .int .i64 s1.secret, .int .i64 l.secret, v] := fun v => by
            rw [HK.out.2]; rfl
          refine ⟨.inr ⟨HK.out.1, some ⟨gb, go + (M.length - s1.cap) * 2, none⟩, (yc - (M.length - s1.cap)), ?_, ?_, ?_⟩, ?_⟩
          · rw [eB, eL]
          · rw [eL, eK]
            exact HI8.out.only (S := fun k => k = w.heap.size + 1 + 1) (by (repeat (first | (with_reducible refine onlyR_set ?_) | (with_reducible refine Only.drew ?_))); exact Only.refl _ _) (fun _ k hk q => by have := HF5.out k hk; omega)
          · intro k hk
            have := HF5.out k hk
            omega
          · repeat (with_reducible refine Below.setCell ?_ (by exact Nat.le_add_right _ 2) _)
            exact HW8.out
    · have hcpi : ¬ (s1.cap : Int) < (M.length : Int) := by omega
      obtain ⟨y0, y1, y2, y3, y4, y5, y6, y7, y8, y9⟩ := cells10 hX7; obtain ⟨a0, a1, a2, a3, a4, a5, a6, a7, a8, a9⟩ := cells10 hR7
      have fA : ∀ j, w7.frozen? ⟨w.heap.size + 1 + 1, j, none⟩ = false := fun j => frozen_of_row w7 _ j _ _ hR7
      clear hX7 hR7 hI7; go_wp2
      (try simp only [Exit.inBlock, Exit.then])
      refine bodyPost_ret (v := .tuple #[.agg #[.int .i64 s1.role, .int .i64 s1.step, .int .i64 s1.sent, .int .i64 ((l.count : Int) + 1), .int .i64 s1.prev, .int .i64 s1.skip, .int .i64 s1.cap, .int .i64 s1.secret, .int .i64 l.secret, .slice yv M.length yc], .int .i64 0]) ?_ ?_ ?_
      · rw [results_cell_tmp (fn := Try.f31) rfl]; simp [go_sem, a0, a1, a2, a3, a4, a5, a6, a7, a8, a9]
      · rfl
      · have eM : (dueS s1 l.count).kept = M := HM.out.symm
        have eC : capS (keyR s (letQ l.step l.count l.prev pub) dn).2.2 = dueS s1 l.count := by
          rw [HK.out.2]
          apply capS_id
          rw [eM]
          show M.length ≤ s1.cap
          omega
        have eB : ∀ v, bookC (dueS s1 l.count) (l.secret : Int) v = #[.int .i64 s1.role, .int .i64 s1.step, .int .i64 s1.sent, .int .i64 ((l.count : Int) + 1), .int .i64 s1.prev, .int .i64 s1.skip, .int .i64 s1.cap, .int .i64 s1.secret, .int .i64 l.secret, v] := fun v => rfl
        refine ⟨.inr ⟨HK.out.1, yv, yc, ?_, ?_, ?_⟩, ?_⟩
        · rw [eC, eB, eM]
        · rw [eC, eM]
          exact HI7.out.only (S := fun k => k = w.heap.size + 1 + 1) (by (repeat (first | (with_reducible refine onlyR_set ?_) | (with_reducible refine Only.drew ?_))); exact Only.refl _ _) (fun _ k hk q => by have := HF5.out k hk; omega)
        · intro k hk
          rw [eC, eM] at hk
          have := HF5.out k hk
          omega
        · repeat (with_reducible refine Below.setCell ?_ (by exact Nat.le_add_right _ 2) _)
          exact HW7.out
theorem mayTake_any (s : StM) (pe : Int) (aa : Option Addr) (cc : Nat) (l : LtM) (pub dn : Nat) (w : World) (hv : IdsAt w (.slice aa s.kept.length cc) s.kept) (hq : LawQ s) (hkc : s.kept.length ≤ s.cap) (hf : ¬ (s.step + 1 < l.step ∨ l.step % 2 = s.step % 2)) (h1 : 1 ≤ l.step) (hc : l.count ≤ 49) (hp : l.prev ≤ 50) :
    Calls Try.prog 31 #[.agg #[.int .i64 s.role, .int .i64 s.step, .int .i64 s.sent, .int .i64 s.got, .int .i64 s.prev, .int .i64 s.skip, .int .i64 s.cap, .int .i64 s.secret, .int .i64 pe, .slice aa s.kept.length cc], .agg #[.string (str l.bytes), .string (str l.text), .int .i64 l.step, .int .i64 l.count, .int .i64 l.prev, .int .i64 l.secret, .bool l.out], .int .i64 dn] w fun e w' => BookOut w.heap.size s pe (.slice aa s.kept.length cc) (keyR s (letQ l.step l.count l.prev pub) dn) (if l.step = s.step + 1 then (l.secret : Int) else pe) w' e ∧ Below w.heap.size w w' := by
  by_cases ht : l.step = s.step + 1
  · rw [if_pos ht]
    by_cases h2 : 2 ≤ s.step
    · by_cases hb : skipBad s l.prev
      · exact mt_turn2bad s pe aa cc l pub dn w hv hq hkc hf h1 hc hp ht h2 hb
      · exact mt_turn2 s pe aa cc l pub dn w hv hq hkc hf h1 hc hp ht h2 hb
    · exact mt_turn1 s pe aa cc l pub dn w hv hq hkc hf h1 hc hp ht h2
  · rw [if_neg ht]
    by_cases hd : l.step + 1 = s.step ∧ s.got ≤ l.count
    · exact mt_due s pe aa cc l pub dn w hv hq hkc hf h1 hc hp hd
    · have ho : l.step + 1 < s.step ∨ (l.step + 1 = s.step ∧ l.count < s.got) := by omega
      cases hn : s.kept.find? (isEnt l.step l.count) with
      | none => exact mt_gone s pe aa cc l pub dn w hv hq hkc hf h1 hc hp ho hn
      | some en => exact mt_old s pe aa cc l pub dn w hv hq hkc hf h1 hc hp ho en hn
end Go.Proofs.Ytabpkohcimiceab
