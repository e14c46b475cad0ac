import Derived.Test.YtabpkohcimiceabAllX
namespace Go.Proofs.Ytabpkohcimiceab
set_option maxRecDepth 100000
set_option maxHeartbeats 1000000
open Go.RowKit
set_option linter.unusedVariables false
set_option linter.unusedSimpArgs false
theorem Try.infoID : (Try.prog.info? 130).map (fun i => (i.zero, i.size, i.bytes)) = some (some (.agg #[.int .i64 0, .int .i64 0]), 2, 16) := by kernel_rfl
def IdsAt (w : World) (v : Value) (l : List EntM) : Prop := (l = [] ∧ ∃ a c, v = .slice a 0 c) ∨ ∃ b off cap, v = .slice (some ⟨b, off, none⟩) l.length cap ∧ l.length ≤ cap ∧ cap ≤ maxLen ∧ b < w.heap.size ∧ ∀ i, i < l.length → w.cell? ⟨b, off + i * 2, none⟩ = some (.int .i64 ((l.getD i default).step : Int)) ∧ w.cell? ⟨b, off + i * 2 + 1, none⟩ = some (.int .i64 ((l.getD i default).count : Int))
theorem IdsAt.form {w : World} {v : Value} {l : List EntM} (h : IdsAt w v l) : ∃ a c, v = .slice a l.length c := by
  rcases h with ⟨h1, a, c, h2⟩ | ⟨b, off, cap, h1, _⟩
  · exact ⟨a, c, by rw [h1, h2]; rfl⟩
  · exact ⟨_, _, h1⟩
theorem IdsAt.only {S : Nat → Prop} {w w' : World} {v : Value} {l : List EntM} (h : IdsAt w v l) (ho : Only S w w') (hs : l ≠ [] → ∀ k, v.ownBlock = some k → ¬ S k) : IdsAt w' v l := by
  rcases h with h | ⟨b, off, cap, h1, h2, h3, h4, h5⟩
  · exact .inl h
  · by_cases hne : l = []
    · exact .inl ⟨hne, _, _, by rw [h1, hne]; rfl⟩
    have hb := ho.block b h4 (hs hne b (by rw [h1]; rfl))
    refine .inr ⟨b, off, cap, h1, h2, h3, Nat.lt_of_lt_of_le h4 ho.size, fun i hi => ?_⟩
    have := h5 i hi
    unfold World.cell? at this ⊢
    rw [hb]; exact this
theorem IdsAt.next {w w' : World} {v : Value} {l : List EntM} (h : IdsAt w v l) (hb : Below w.heap.size w w') : IdsAt w' v l := h.only (S := fun _ => False) (Only.of_below hb) (fun _ _ _ q => q)
theorem IdsAt.at {w : World} {av : Option Addr} {ac : Nat} {l : List EntM} (h : IdsAt w (.slice av l.length ac) l) {j : Nat} (hj : j < l.length) : ∃ b off, av = some ⟨b, off, none⟩ ∧ b < w.heap.size ∧ w.cell? ⟨b, off + j * 2, none⟩ = some (.int .i64 ((l.getD j default).step : Int)) ∧ w.cell? ⟨b, off + j * 2 + 1, none⟩ = some (.int .i64 ((l.getD j default).count : Int)) := by
  rcases h with ⟨q, _⟩ | ⟨b, off, cap, h1, h2, h3, h4, h5⟩
  · rw [q] at hj; simp at hj
  · injection h1 with h1 _ _
    exact ⟨b, off, h1, h4, h5 j hj⟩
theorem onlyR_set {b i : Nat} {w w1 : World} {x : Value} (h : Only (fun k => k = b) w w1) : Only (fun k => k = b) w (w1.setCell ⟨b, i, none⟩ x) := Only.set (S := fun k => k = b) h rfl x
def FreshV (b : Nat) (v : Value) : Prop := ∀ k, v.ownBlock = some k → b ≤ k
theorem FreshV.own {w : World} {base b n : Nat} {e : TypeId} {v : Value} {xs : List Value} (h : w.ownsRow base e 2 v n xs) (hb : b ≤ base) : FreshV b v := fun k hk => Nat.le_trans hb (h.lt k hk).1
def idC (e : EntM) : List Value := [.int .i64 e.step, .int .i64 e.count]
def idsC : List EntM → List Value
  | [] => []
  | x :: l => idC x ++ idsC l
theorem idsC_append : ∀ a b : List EntM, idsC (a ++ b) = idsC a ++ idsC b
  | [], b => rfl
  | x :: a, b => by rw [List.cons_append, idsC, idsC_append a b, idsC, List.append_assoc]
theorem idsC_push (a : List EntM) (x : EntM) : idsC (a ++ [x]) = idsC a ++ [.int .i64 x.step, .int .i64 x.count] := by rw [idsC_append]; simp [idsC, idC]
theorem idsC_at : ∀ (a : List EntM) (i : Nat), i < a.length → ∀ j, j < 2 → (idsC a)[i * 2 + j]? = (idC (a.getD i default))[j]?
  | [], i, h, _, _ => by simp at h
  | x :: a, 0, _, j, hj => by
    rw [idsC, Nat.zero_mul, Nat.zero_add, List.getElem?_append_left (by simp [idC]; exact hj)]; rfl
  | x :: a, i + 1, h, j, hj => by
    rw [idsC, List.getElem?_append_right (by simp [idC]; omega), show (i + 1) * 2 + j - (idC x).length = i * 2 + j by simp [idC]; omega, idsC_at a i (by simp at h; omega) j hj]
    rfl
theorem idsAt_own {w : World} {base cp : Nat} {a : Option Addr} {e : TypeId} {l : List EntM} (h : w.ownsRow base e 2 (.slice a l.length cp) l.length (idsC l)) : IdsAt w (.slice a l.length cp) l := by
  have h' := h
  rcases h.2 with ⟨q, q2⟩ | ⟨g, cap, cur, h1, h2, h3, h4, h5, _⟩
  · exact .inl ⟨List.length_eq_zero_iff.1 q2, none, 0, q⟩
  · injection h1 with x1 x2 x3
    subst x1 x3
    refine .inr ⟨g, 0, cp, rfl, h4, h5, (h'.lt g rfl).2, fun i hi => ⟨?_, ?_⟩⟩
    · rw [Nat.zero_add, h'.cellAt (i * 2) (by omega)]
      exact idsC_at l i hi 0 (by omega)
    · rw [Nat.zero_add, h'.cellAt (i * 2 + 1) (by omega)]
      exact idsC_at l i hi 1 (by omega)
theorem alloc2 (w : World) (a b : Obj) : ((w.alloc a).alloc b).heap[w.heap.size]? = some a ∧ ((w.alloc a).alloc b).heap[w.heap.size + 1]? = some b ∧ Below w.heap.size w ((w.alloc a).alloc b) ∧ ((w.alloc a).alloc b).heap.size = w.heap.size + 1 + 1 := by
  refine ⟨(Below.heap_alloc _ _ _ (by simp)).trans (heap_alloc_new w _), ?_, ((Below.refl _ _).alloc (Nat.le_refl _) _).alloc (by simp) _, by simp⟩
  have := heap_alloc_new (w.alloc a) b
  have e : (w.alloc a).heap.size = w.heap.size + 1 := by simp
  rw [e] at this
  exact this
theorem alloc2e (w : World) (a b : Obj) : ∃ wb, wb = (w.alloc a).alloc b ∧ wb.heap[w.heap.size]? = some a ∧ wb.heap[w.heap.size + 1]? = some b ∧ Below w.heap.size w wb ∧ wb.heap.size = w.heap.size + 1 + 1 := ⟨_, rfl, alloc2 w a b⟩
def mayW (s : StM) : Int := if s.step = 0 then 13 else if 50 ≤ s.sent ∨ 30 ≤ s.step then 14 else 0
theorem mayWrite_any (s : StM) (pe : Int) (aa : Option Addr) (nn cc : Nat) (w : World) :
    Calls Try.prog 28 #[.agg #[.int .i64 s.role, .int .i64 s.step, .int .i64 s.sent, .int .i64 s.got, .int .i64 s.prev, .int .i64 s.skip, .int .i64 s.cap, .int .i64 s.secret, .int .i64 pe, .slice aa nn cc]] w fun e w' => e = .returned (.int .i64 (mayW s)) ∧ Below w.heap.size w w' := by
  by_cases h0 : s.step = 0
  · have HM : Hid (mayW s = 13) := by
      show _ = _
      rw [mayW, if_pos h0]
    have i0 : ((s.step : Int) == 0) = true := by rw [beq_iff_eq]; omega
    clear h0
    go_enter Try.func28, Try.ntmps28
    go_upto_region 1 with fail
    obtain ⟨ob, eob⟩ : ∃ ob, ob = Obj.cells #[.int .i64 s.role, .int .i64 s.step, .int .i64 s.sent, .int .i64 s.got, .int .i64 s.prev, .int .i64 s.skip, .int .i64 s.cap, .int .i64 s.secret, .int .i64 pe, .slice aa nn cc] 38 := ⟨_, rfl⟩
    rw [← eob]; have hB := heap_alloc_new w ob; have hW : Below w.heap.size w (w.alloc ob) := (Below.refl _ _).alloc (Nat.le_refl _) _
    have hlt : w.heap.size < (w.alloc ob).heap.size := by simp
    generalize (w.alloc ob) = wb at hB hW hlt ⊢
    subst eob; have HB := hid hB; have HW := hid hW; have k1 : wb.cell? ⟨w.heap.size, 1, none⟩ = some (.int .i64 s.step) := cell_of_row wb _ 1 _ _ _ hB; clear hB hW HB; go_wp2; go_ret
    exact ⟨by rw [HM.out]; rfl, HW.out⟩
  · have i0 : ((s.step : Int) == 0) = false := by rw [beq_eq_false_iff_ne]; omega
    by_cases h1 : 50 ≤ s.sent
    · have HM : Hid (mayW s = 14) := by
        show _ = _
        rw [mayW, if_neg h0, if_pos (.inl h1)]
      have i1 : decide ((50 : Int) ≤ (s.sent : Int)) = true := by rw [decide_eq_true_eq]; omega
      have i2 : (50 : Int) ≤ (s.sent : Int) := by omega
      go_enter Try.func28, Try.ntmps28
      go_upto_region 1 with fail
      obtain ⟨ob, eob⟩ : ∃ ob, ob = Obj.cells #[.int .i64 s.role, .int .i64 s.step, .int .i64 s.sent, .int .i64 s.got, .int .i64 s.prev, .int .i64 s.skip, .int .i64 s.cap, .int .i64 s.secret, .int .i64 pe, .slice aa nn cc] 38 := ⟨_, rfl⟩
      rw [← eob]; have hB := heap_alloc_new w ob; have hW : Below w.heap.size w (w.alloc ob) := (Below.refl _ _).alloc (Nat.le_refl _) _
      have hlt : w.heap.size < (w.alloc ob).heap.size := by simp
      generalize (w.alloc ob) = wb at hB hW hlt ⊢
      subst eob; have HB := hid hB; have HW := hid hW; have k1 : wb.cell? ⟨w.heap.size, 1, none⟩ = some (.int .i64 s.step) := cell_of_row wb _ 1 _ _ _ hB; have k2 : wb.cell? ⟨w.heap.size, 2, none⟩ = some (.int .i64 s.sent) := cell_of_row wb _ 2 _ _ _ hB; clear hB hW HB h0 h1; go_wp2; go_ret
      exact ⟨by rw [HM.out]; rfl, HW.out⟩
    · have i1 : decide ((50 : Int) ≤ (s.sent : Int)) = false := by rw [decide_eq_false_iff_not]; omega
      have i1' : ¬ (50 : Int) ≤ (s.sent : Int) := by omega
      by_cases h2 : 30 ≤ s.step
      · have HM : Hid (mayW s = 14) := by
          show _ = _
          rw [mayW, if_neg h0, if_pos (.inr h2)]
        have i2 : decide ((30 : Int) ≤ (s.step : Int)) = true := by rw [decide_eq_true_eq]; omega
        have i3 : (30 : Int) ≤ (s.step : Int) := by omega
        go_enter Try.func28, Try.ntmps28
        go_upto_region 1 with fail
        obtain ⟨ob, eob⟩ : ∃ ob, ob = Obj.cells #[.int .i64 s.role, .int .i64 s.step, .int .i64 s.sent, .int .i64 s.got, .int .i64 s.prev, .int .i64 s.skip, .int .i64 s.cap, .int .i64 s.secret, .int .i64 pe, .slice aa nn cc] 38 := ⟨_, rfl⟩
        rw [← eob]; have hB := heap_alloc_new w ob; have hW : Below w.heap.size w (w.alloc ob) := (Below.refl _ _).alloc (Nat.le_refl _) _
        have hlt : w.heap.size < (w.alloc ob).heap.size := by simp
        generalize (w.alloc ob) = wb at hB hW hlt ⊢
        subst eob; have HB := hid hB; have HW := hid hW; have k1 : wb.cell? ⟨w.heap.size, 1, none⟩ = some (.int .i64 s.step) := cell_of_row wb _ 1 _ _ _ hB; have k2 : wb.cell? ⟨w.heap.size, 2, none⟩ = some (.int .i64 s.sent) := cell_of_row wb _ 2 _ _ _ hB; clear hB hW HB h0 h1 h2; go_wp2; go_ret
        exact ⟨by rw [HM.out]; rfl, HW.out⟩
      · have HM : Hid (mayW s = 0) := by
          show _ = _
          rw [mayW, if_neg h0, if_neg (by omega)]
        have i2 : decide ((30 : Int) ≤ (s.step : Int)) = false := by rw [decide_eq_false_iff_not]; omega
        have i3 : ¬ (30 : Int) ≤ (s.step : Int) := by omega
        go_enter Try.func28, Try.ntmps28
        go_upto_region 1 with fail
        obtain ⟨ob, eob⟩ : ∃ ob, ob = Obj.cells #[.int .i64 s.role, .int .i64 s.step, .int .i64 s.sent, .int .i64 s.got, .int .i64 s.prev, .int .i64 s.skip, .int .i64 s.cap, .int .i64 s.secret, .int .i64 pe, .slice aa nn cc] 38 := ⟨_, rfl⟩
        rw [← eob]; have hB := heap_alloc_new w ob; have hW : Below w.heap.size w (w.alloc ob) := (Below.refl _ _).alloc (Nat.le_refl _) _
        have hlt : w.heap.size < (w.alloc ob).heap.size := by simp
        generalize (w.alloc ob) = wb at hB hW hlt ⊢
        subst eob; have HB := hid hB; have HW := hid hW; have k1 : wb.cell? ⟨w.heap.size, 1, none⟩ = some (.int .i64 s.step) := cell_of_row wb _ 1 _ _ _ hB; have k2 : wb.cell? ⟨w.heap.size, 2, none⟩ = some (.int .i64 s.sent) := cell_of_row wb _ 2 _ _ _ hB; clear hB hW HB h0 h1 h2; go_wp2; go_ret
        exact ⟨by rw [HM.out]; rfl, HW.out⟩
theorem wrote_any (s : StM) (pe : Int) (aa : Option Addr) (nn cc : Nat) (w : World) (hs : s.sent ≤ 1000) :
    Calls Try.prog 30 #[.agg #[.int .i64 s.role, .int .i64 s.step, .int .i64 s.sent, .int .i64 s.got, .int .i64 s.prev, .int .i64 s.skip, .int .i64 s.cap, .int .i64 s.secret, .int .i64 pe, .slice aa nn cc]] w fun e w' => e = .returned (.agg #[.int .i64 s.role, .int .i64 s.step, .int .i64 ((s.sent : Int) + 1), .int .i64 s.got, .int .i64 s.prev, .int .i64 s.skip, .int .i64 s.cap, .int .i64 s.secret, .int .i64 pe, .slice aa nn cc]) ∧ Below w.heap.size w w' := by
  have hw1 := wrap_i64 ((s.sent : Int) + 1) (by omega) (by omega)
  go_enter Try.func30, Try.ntmps30
  go_upto_region 1 with fail
  obtain ⟨wb, ewb, hB, hR, hW, hlt⟩ := alloc2e w (.cells #[.int .i64 s.role, .int .i64 s.step, .int .i64 s.sent, .int .i64 s.got, .int .i64 s.prev, .int .i64 s.skip, .int .i64 s.cap, .int .i64 s.secret, .int .i64 pe, .slice aa nn cc] 38) (.cells #[.int .i64 0, .int .i64 0, .int .i64 0, .int .i64 0, .int .i64 0, .int .i64 0, .int .i64 0, .int .i64 0, .int .i64 0, .slice none 0 0] 38); rw [← ewb]; clear ewb; have HB := hid hB; have HR := hid hR; have HW := hid hW; have k2 : wb.cell? ⟨w.heap.size, 2, none⟩ = some (.int .i64 s.sent) := cell_of_row wb _ 2 _ _ _ hB
  have fB : ∀ j, wb.frozen? ⟨w.heap.size, j, none⟩ = false := fun j => frozen_of_row wb _ j _ _ hB
  clear hB hR hW
  go_upto_region 2 with fail
  have hB2 : (wb.setCell ⟨w.heap.size, 2, none⟩ (.int .i64 ((s.sent : Int) + 1))).heap[w.heap.size]? = some (.cells #[.int .i64 s.role, .int .i64 s.step, .int .i64 ((s.sent : Int) + 1), .int .i64 s.got, .int .i64 s.prev, .int .i64 s.skip, .int .i64 s.cap, .int .i64 s.secret, .int .i64 pe, .slice aa nn cc] 38) := heap_setCell_same _ _ _ _ _ _ HB.out
  have hR2 : (wb.setCell ⟨w.heap.size, 2, none⟩ (.int .i64 ((s.sent : Int) + 1))).heap[w.heap.size + 1]? = some (.cells #[.int .i64 0, .int .i64 0, .int .i64 0, .int .i64 0, .int .i64 0, .int .i64 0, .int .i64 0, .int .i64 0, .int .i64 0, .slice none 0 0] 38) := (heap_setCell_other _ _ _ _ (by show w.heap.size + 1 ≠ w.heap.size; omega)).trans HR.out
  have hW2 : Below w.heap.size w (wb.setCell ⟨w.heap.size, 2, none⟩ (.int .i64 ((s.sent : Int) + 1))) := HW.out.setCell (by exact Nat.le_refl _) _
  have hs2 : (wb.setCell ⟨w.heap.size, 2, none⟩ (.int .i64 ((s.sent : Int) + 1))).heap.size = w.heap.size + 1 + 1 := by rw [World.size_setCell]; exact hlt
  clear k2 fB
  generalize (wb.setCell ⟨w.heap.size, 2, none⟩ (.int .i64 ((s.sent : Int) + 1))) = w2 at hB2 hR2 hW2 hs2 ⊢
  obtain ⟨k0, k1, k2, k3, k4, k5, k6, k7, k8, k9⟩ := cells10 hB2; obtain ⟨a0, a1, a2, a3, a4, a5, a6, a7, a8, a9⟩ := cells10 hR2
  have fA : ∀ j, w2.frozen? ⟨w.heap.size + 1, j, none⟩ = false := fun j => frozen_of_row w2 _ j _ _ hR2
  have HW2 := hid hW2; clear hB2 hR2 hW2 HB HR HW hlt; go_wp2
  (try simp only [Exit.inBlock, Exit.then])
  refine bodyPost_ret (v := .agg #[.int .i64 s.role, .int .i64 s.step, .int .i64 ((s.sent : Int) + 1), .int .i64 s.got, .int .i64 s.prev, .int .i64 s.skip, .int .i64 s.cap, .int .i64 s.secret, .int .i64 pe, .slice aa nn cc]) ?_ ?_ ?_
  · simp [results, go_sem, a0, a1, a2, a3, a4, a5, a6, a7, a8, a9]
  · rfl
  · refine ⟨rfl, ?_⟩
    repeat (with_reducible refine Below.setCell ?_ (by exact Nat.le_succ _) _)
    exact HW2.out
theorem has_any (s : StM) (pe : Int) (aa : Option Addr) (cc : Nat) (l : LtM) (w : World) (hv : IdsAt w (.slice aa s.kept.length cc) s.kept) (hl : s.kept.length ≤ 1000) :
    Calls Try.prog 46 #[.agg #[.int .i64 s.role, .int .i64 s.step, .int .i64 s.sent, .int .i64 s.got, .int .i64 s.prev, .int .i64 s.skip, .int .i64 s.cap, .int .i64 s.secret, .int .i64 pe, .slice aa s.kept.length cc], .agg #[.string (str l.bytes), .string (str l.text), .int .i64 l.step, .int .i64 l.count, .int .i64 l.prev, .int .i64 l.secret, .bool l.out]] w fun e w' => e = .returned (.bool (s.kept.find? (isEnt l.step l.count)).isSome) ∧ Below w.heap.size w w' := by
  obtain ⟨m, hm⟩ : ∃ m, m = s.kept := ⟨_, rfl⟩
  rw [← hm] at hv hl ⊢
  clear hm
  go_enter Try.func46, Try.ntmps46
  go_upto_region 1 with fail
  obtain ⟨wb, ewb, hB, hL, hW, hlt⟩ := alloc2e w (.cells #[.int .i64 s.role, .int .i64 s.step, .int .i64 s.sent, .int .i64 s.got, .int .i64 s.prev, .int .i64 s.skip, .int .i64 s.cap, .int .i64 s.secret, .int .i64 pe, .slice aa m.length cc] 38) (.cells #[.string (str l.bytes), .string (str l.text), .int .i64 l.step, .int .i64 l.count, .int .i64 l.prev, .int .i64 l.secret, .bool l.out] 63); rw [← ewb]; clear ewb; have HV := hid (hv.next hW); have HW := hid hW; have HB := hid hB; have HL := hid hL; clear hB hL hW hv; go_wp2
  go_loopg [5] 2000 (fun g c wr => ∃ j : Nat, c = .int .i64 j ∧ j ≤ m.length ∧ g + j = 2000 ∧ (∀ i, i < j → isEnt l.step l.count (m.getD i default) = false) ∧ Below wb.heap.size wb wr)
  case atStart => exact ⟨0, rfl, by omega, by omega, fun i h => absurd h (Nat.not_lt_zero _), Below.refl _ _⟩
  case round =>
    obtain ⟨j, rfl, hj, hg, hno, hb⟩ := hrel
    have hBr := (hb.block w.heap.size (by omega)).trans HB.out
    have hLr := (hb.block (w.heap.size + 1) (by omega)).trans HL.out
    have k9 : wr.cell? ⟨w.heap.size, 9, none⟩ = some (.slice aa m.length cc) := cell_of_row wr _ 9 _ _ _ hBr; have l2 : wr.cell? ⟨w.heap.size + 1, 2, none⟩ = some (.int .i64 l.step) := cell_of_row wr _ 2 _ _ _ hLr; have l3 : wr.cell? ⟨w.heap.size + 1, 3, none⟩ = some (.int .i64 l.count) := cell_of_row wr _ 3 _ _ _ hLr; have HVr := hid (HV.out.next hb); have HBE := hid hb; clear hBr hLr hb
    by_cases hlt2 : j < m.length
    · obtain ⟨b, off, hv', hgs, c0, c1⟩ := HVr.out.at hlt2; subst hv'
      have hjl : (j : Int) < (m.length : Int) := by omega
      have hj0 : (0 : Int) ≤ (j : Int) := by omega
      have hhit := find_hit (isEnt l.step l.count) m j hlt2 hno
      have HN : Hid (isEnt l.step l.count (m.getD j default) = false → ∀ i, i < j + 1 → isEnt l.step l.count (m.getD i default) = false) := by
        intro q i hi
        rcases Nat.lt_or_ge i j with h | h
        · exact hno i h
        · obtain rfl : i = j := by omega
          exact q
      by_cases he : (m.getD j default).step = l.step
      · rw [he] at c0
        by_cases hf : (m.getD j default).count = l.count
        · rw [hf] at c1
          have HH : Hid (m.find? (isEnt l.step l.count) = some (m.getD j default)) := hhit ((isEnt_iff _ _ _).2 ⟨he, hf⟩)
          have d1 : ((l.step : Int) == (l.step : Int)) = true := by simp
          have d2 : ((l.count : Int) == (l.count : Int)) = true := by simp
          clear hhit hno he hf HN
          go_upto_region 4 with fail
          go_quiet (fail)
          go_wp2; go_ret; have hq := below_tr HW.out HBE.out
          exact ⟨by rw [HH.out]; rfl, ⟨hq.os, hq.tape, hq.output, hq.size, hq.block⟩⟩
        · have HF : Hid (isEnt l.step l.count (m.getD j default) = false) := isEnt_false _ _ _ (fun q => hf q.2)
          have e2 : (((m.getD j default).count : Int) == (l.count : Int)) = false := by rw [beq_eq_false_iff_ne]; omega
          obtain ⟨z, hz⟩ : ∃ z, z = (m.getD j default).count := ⟨_, rfl⟩
          rw [← hz] at c1 e2
          have d1 : ((l.step : Int) == (l.step : Int)) = true := by simp
          clear hhit hno he hf hz
          go_upto_region 4 with fail
          go_quiet (fail)
          go_wp2
          go_roundg (gk - 1)
          case measure => omega
          case rel => exact ⟨j + 1, by simp, by omega, by omega, HN.out HF.out, ⟨HBE.out.os, HBE.out.tape, HBE.out.output, HBE.out.size, HBE.out.block⟩⟩
      · have HF : Hid (isEnt l.step l.count (m.getD j default) = false) := isEnt_false _ _ _ (fun q => he q.1)
        have e1 : (((m.getD j default).step : Int) == (l.step : Int)) = false := by rw [beq_eq_false_iff_ne]; omega
        obtain ⟨z, hz⟩ : ∃ z, z = (m.getD j default).step := ⟨_, rfl⟩
        rw [← hz] at c0 e1
        clear hhit hno he hz
        go_upto_region 4 with fail
        go_quiet (fail)
        go_wp2
        go_roundg (gk - 1)
        case measure => omega
        case rel => exact ⟨j + 1, by simp, by omega, by omega, HN.out HF.out, ⟨HBE.out.os, HBE.out.tape, HBE.out.output, HBE.out.size, HBE.out.block⟩⟩
    · obtain rfl : j = m.length := by omega
      have HH : Hid (m.find? (isEnt l.step l.count) = none) := find_miss (isEnt l.step l.count) m hno; clear hno; go_wp2; go_ret
      exact ⟨by rw [HH.out]; rfl, below_tr HW.out HBE.out⟩
theorem bwithout_any (s : StM) (pe : Int) (aa : Option Addr) (cc : Nat) (l : LtM) (w : World) (hv : IdsAt w (.slice aa s.kept.length cc) s.kept) (hl : s.kept.length ≤ 1000) :
    Calls Try.prog 47 #[.agg #[.int .i64 s.role, .int .i64 s.step, .int .i64 s.sent, .int .i64 s.got, .int .i64 s.prev, .int .i64 s.skip, .int .i64 s.cap, .int .i64 s.secret, .int .i64 pe, .slice aa s.kept.length cc], .agg #[.string (str l.bytes), .string (str l.text), .int .i64 l.step, .int .i64 l.count, .int .i64 l.prev, .int .i64 l.secret, .bool l.out]] w fun e w' => (∃ (yv : Option Addr) (yc : Nat), e = .returned (.agg #[.int .i64 s.role, .int .i64 s.step, .int .i64 s.sent, .int .i64 s.got, .int .i64 s.prev, .int .i64 s.skip, .int .i64 s.cap, .int .i64 s.secret, .int .i64 pe, .slice yv (s.kept.filter (fun e => !isEnt l.step l.count e)).length yc]) ∧ IdsAt w' (.slice yv (s.kept.filter (fun e => !isEnt l.step l.count e)).length yc) (s.kept.filter (fun e => !isEnt l.step l.count e)) ∧ FreshV w.heap.size (.slice yv (s.kept.filter (fun e => !isEnt l.step l.count e)).length yc)) ∧ Below w.heap.size w w' := by
  obtain ⟨i0, hi0, hz0, hz1, hz2⟩ := info_parts Try.infoID
  obtain ⟨kp, hkp⟩ : ∃ kp, kp = s.kept := ⟨_, rfl⟩
  rw [← hkp] at hv hl ⊢
  clear hkp
  go_enter Try.func47, Try.ntmps47
  go_upto_region 1 with fail
  obtain ⟨wb, ewb, hB, hL, hR, hW, hlt⟩ := alloc3e w (.cells #[.int .i64 s.role, .int .i64 s.step, .int .i64 s.sent, .int .i64 s.got, .int .i64 s.prev, .int .i64 s.skip, .int .i64 s.cap, .int .i64 s.secret, .int .i64 pe, .slice aa kp.length cc] 38) (.cells #[.string (str l.bytes), .string (str l.text), .int .i64 l.step, .int .i64 l.count, .int .i64 l.prev, .int .i64 l.secret, .bool l.out] 63) (.cells #[.int .i64 0, .int .i64 0, .int .i64 0, .int .i64 0, .int .i64 0, .int .i64 0, .int .i64 0, .int .i64 0, .int .i64 0, .slice none 0 0] 38); rw [← ewb]; clear ewb; have HV := hid (hv.next hW); have HB := hid hB; have HL := hid hL; have HR := hid hR; have HW := hid hW; clear hB hL hR hW hv; go_wp2
  go_loopg [5, 6] 2000 (fun g v c wr => ∃ (j yc : Nat) (yv : Option Addr), ∃ m : List EntM, c = .int .i64 j ∧ v = .slice yv m.length yc ∧ j ≤ kp.length ∧ g + j = 2000 ∧ m.length ≤ j ∧ m = (kp.take j).filter (fun e => !isEnt l.step l.count e) ∧ wr.ownsRow wb.heap.size 130 2 (v) m.length (idsC m) ∧ Below wb.heap.size wb wr)
  case atStart => exact ⟨0, 0, none, [], rfl, rfl, by omega, by omega, by simp, rfl, World.ownsRow_nil _ _ _ _, Below.refl _ _⟩
  case round =>
    obtain ⟨j, yc, yv, m, rfl, rfl, hj, hg, hmj, hm, hown, hb⟩ := hrel; have hsz := hb.size; have hlr := HV.out.next hb
    have hBr := (hb.block w.heap.size (by omega)).trans HB.out
    have k9 : wr.cell? ⟨w.heap.size, 9, none⟩ = some (.slice aa kp.length cc) := cell_of_row wr _ 9 _ _ _ hBr
    have hLr := (hb.block (w.heap.size + 1) (by omega)).trans HL.out
    have l2 : wr.cell? ⟨w.heap.size + 1, 2, none⟩ = some (.int .i64 l.step) := cell_of_row wr _ 2 _ _ _ hLr; have l3 : wr.cell? ⟨w.heap.size + 1, 3, none⟩ = some (.int .i64 l.count) := cell_of_row wr _ 3 _ _ _ hLr; have HBR := hid hBr; have HBE := hid hb; have HM := hid hm; clear hb hm hBr hLr
    by_cases hlt2 : j < kp.length
    · obtain ⟨b, off, hv', hgs, c0, c1⟩ := hlr.at hlt2; subst hv'
      have hjl : (j : Int) < (kp.length : Int) := by omega
      have hj0 : (0 : Int) ≤ (j : Int) := by omega
      have HT : Hid (∀ b, isEnt l.step l.count (kp.getD j default) = b → (kp.take (j + 1)).filter (fun e => !isEnt l.step l.count e) = m ++ if b = true then [] else [kp.getD j default]) := by
        intro b hb
        rw [take_push kp default j hlt2, List.filter_append, ← HM.out, List.filter_cons, List.filter_nil, hb]
        cases b <;> rfl
      clear hlr
      by_cases he : (kp.getD j default).step = l.step ∧ (kp.getD j default).count = l.count
      · have HT2 : Hid ((kp.take (j + 1)).filter (fun e => !isEnt l.step l.count e) = m) := by
          show _ = _
          rw [HT.out _ ((isEnt_iff _ _ _).2 he), if_pos rfl, List.append_nil]
        obtain ⟨he1, he2⟩ := he
        rw [he1] at c0
        rw [he2] at c1
        have HO := hid hown; clear HT he1 he2 hown
        have d1 : ((l.step : Int) != (l.step : Int)) = false := by simp
        have d2 : ((l.count : Int) != (l.count : Int)) = false := by simp
        go_upto_region 5 with fail
        go_quiet (fail)
        go_wp2
        go_roundg (gk - 1)
        case measure => omega
        case rel => exact ⟨j + 1, yc, yv, m, by simp, rfl, by omega, by omega, by omega, by rw [HT2.out], HO.out, ⟨HBE.out.os, HBE.out.tape, HBE.out.output, HBE.out.size, HBE.out.block⟩⟩
      · have HT2 : Hid ((kp.take (j + 1)).filter (fun e => !isEnt l.step l.count e) = m ++ [kp.getD j default]) := by
          show _ = _
          rw [HT.out _ (isEnt_false _ _ _ he), if_neg (by simp)]
        have hcase : (¬ (kp.getD j default).step = l.step) ∨ ((kp.getD j default).step = l.step ∧ ¬ (kp.getD j default).count = l.count) := by omega
        obtain ⟨en, hen⟩ : ∃ en, en = kp.getD j default := ⟨_, rfl⟩
        rw [← hen] at c0 c1 hcase HT2
        clear hen HT he
        rcases hcase with e1 | ⟨e1, e2⟩
        · have d1 : ((en.step : Int) == (l.step : Int)) = false := by rw [beq_eq_false_iff_ne]; omega
          have d2 : ((en.step : Int) != (l.step : Int)) = true := by rw [bne, d1]; rfl
          go_upto_region 5 with fail
          go_quiet (fail)
          go_wp2_with (first | (at_builtin; go_loud (refine wpList_append_lies _ rfl (.tmp 34) (.tmp 40) _ rfl wb.heap.size 130 i0 _ 2 16 Try.underlying36 hi0 hz0 hz1 hz2 rfl (by omega) _ m.length (idsC m) rfl (hown.alloc _) ⟨wr.heap.size, 0, none⟩ 1 1 [.int .i64 en.step, .int .i64 en.count] rfl rfl (World.news_of_block (cs := #[.int .i64 en.step, .int .i64 en.count]) (t := 130) (fr := (0, 0)) (heap_alloc_new _ _)) (by simp [Value.oneCell']) (by omega) (by unfold maxLen; omega) (by omega) (by simp; omega) (wr.heap.size + 1) (by simp) ?_); intro g2 cap2 w2 hown2 hgrow hat hltx))
          go_roundg (gk - 1)
          case measure => omega
          case rel =>
            refine ⟨j + 1, cap2, some ⟨g2, 0, none⟩, m ++ [en], by simp, by simp, by omega, by omega, by simp; omega, by rw [HT2.out], ?_, ?_⟩
            · rw [idsC_push, List.length_append]; exact hown2
            · exact grown_below (Below.alloc (a := wb) (w := wr.drewN nq) ⟨HBE.out.os, HBE.out.tape, HBE.out.output, HBE.out.size, HBE.out.block⟩ hsz _) (hown.alloc _) hgrow
        · have HS : Hid (en.step = l.step) := e1
          rw [e1] at c0
          have d1 : ((l.step : Int) != (l.step : Int)) = false := by simp
          have d2 : ((en.count : Int) == (l.count : Int)) = false := by rw [beq_eq_false_iff_ne]; omega
          have d3 : ((en.count : Int) != (l.count : Int)) = true := by rw [bne, d2]; rfl
          clear e1
          go_upto_region 5 with fail
          go_quiet (fail)
          go_wp2_with (first | (at_builtin; go_loud (refine wpList_append_lies _ rfl (.tmp 34) (.tmp 40) _ rfl wb.heap.size 130 i0 _ 2 16 Try.underlying36 hi0 hz0 hz1 hz2 rfl (by omega) _ m.length (idsC m) rfl (hown.alloc _) ⟨wr.heap.size, 0, none⟩ 1 1 [.int .i64 l.step, .int .i64 en.count] rfl rfl (World.news_of_block (cs := #[.int .i64 l.step, .int .i64 en.count]) (t := 130) (fr := (0, 0)) (heap_alloc_new _ _)) (by simp [Value.oneCell']) (by omega) (by unfold maxLen; omega) (by omega) (by simp; omega) (wr.heap.size + 1) (by simp) ?_); intro g2 cap2 w2 hown2 hgrow hat hltx))
          go_roundg (gk - 1)
          case measure => omega
          case rel =>
            refine ⟨j + 1, cap2, some ⟨g2, 0, none⟩, m ++ [en], by simp, by simp, by omega, by omega, by simp; omega, by rw [HT2.out], ?_, ?_⟩
            · rw [idsC_push, List.length_append, HS.out]; exact hown2
            · exact grown_below (Below.alloc (a := wb) (w := wr.drewN nq) ⟨HBE.out.os, HBE.out.tape, HBE.out.output, HBE.out.size, HBE.out.block⟩ hsz _) (hown.alloc _) hgrow
    · obtain rfl : j = kp.length := by omega
      have HO := hid hown
      have fB : ∀ i, wr.frozen? ⟨w.heap.size, i, none⟩ = false := fun i => frozen_of_row wr _ i _ _ HBR.out
      have hRr := (HBE.out.block (w.heap.size + 1 + 1) (by omega)).trans HR.out
      have HRR := hid hRr; clear hown hlr hRr
      go_upto_region 8 with fail
      have hB2 : (wr.setCell ⟨w.heap.size, 9, none⟩ (.slice yv m.length yc)).heap[w.heap.size]? = some (.cells #[.int .i64 s.role, .int .i64 s.step, .int .i64 s.sent, .int .i64 s.got, .int .i64 s.prev, .int .i64 s.skip, .int .i64 s.cap, .int .i64 s.secret, .int .i64 pe, .slice yv m.length yc] 38) := heap_setCell_same _ _ _ _ _ _ HBR.out
      have hR2 := (heap_setCell_other wr ⟨w.heap.size, 9, none⟩ (w.heap.size + 1 + 1) (.slice yv m.length yc) (by show w.heap.size + 1 + 1 ≠ w.heap.size; omega)).trans HRR.out
      have hO2 : (wr.setCell ⟨w.heap.size, 9, none⟩ (.slice yv m.length yc)).ownsRow wb.heap.size 130 2 (.slice yv m.length yc) m.length (idsC m) := ownsRow_setCell_below HO.out (by show w.heap.size < _; omega) _
      have hW2 : Below w.heap.size w (wr.setCell ⟨w.heap.size, 9, none⟩ (.slice yv m.length yc)) := (below_tr HW.out HBE.out).setCell (by exact Nat.le_refl _) _
      clear k9 l2 l3 fB
      generalize (wr.setCell ⟨w.heap.size, 9, none⟩ (.slice yv m.length yc)) = w2 at hB2 hR2 hO2 hW2 ⊢
      obtain ⟨k0, k1, k2, k3, k4, k5, k6, k7, k8, k9⟩ := cells10 hB2; obtain ⟨a0, a1, a2, a3, a4, a5, a6, a7, a8, a9⟩ := cells10 hR2
      have fA : ∀ i, w2.frozen? ⟨w.heap.size + 1 + 1, i, none⟩ = false := fun i => frozen_of_row w2 _ i _ _ hR2
      have HO2 := hid hO2; have HW2 := hid hW2; clear hB2 hR2 hO2 hW2 HB HL HR HW HO HBR HRR; go_wp2
      (try simp only [Exit.inBlock, Exit.then])
      have e := HM.out
      rw [List.take_length] at e
      rw [← e]
      refine bodyPost_ret (v := .agg #[.int .i64 s.role, .int .i64 s.step, .int .i64 s.sent, .int .i64 s.got, .int .i64 s.prev, .int .i64 s.skip, .int .i64 s.cap, .int .i64 s.secret, .int .i64 pe, .slice yv m.length yc]) ?_ ?_ ?_
      · simp [results, go_sem, a0, a1, a2, a3, a4, a5, a6, a7, a8, a9]
      · rfl
      · refine ⟨⟨yv, yc, rfl, idsAt_own (base := wb.heap.size) (e := 130) ?_, FreshV.own (base := wb.heap.size) (b := w.heap.size) HO2.out (by omega)⟩, ?_⟩
        · repeat (with_reducible refine ownsRow_setCell_below ?_ (by show w.heap.size + 1 + 1 < _; omega) _)
          exact HO2.out
        · repeat (with_reducible refine Below.setCell ?_ (by exact Nat.le_add_right _ 2) _)
          exact HW2.out
def idSpan (st due : Nat) : Nat → List EntM
  | 0 => []
  | n + 1 => idSpan st due n ++ [⟨st, due + n, []⟩]
def addIds (l : List EntM) (st due n : Nat) : List EntM := l ++ idSpan st due n
theorem addIds_succ (l : List EntM) (st due n : Nat) : addIds l st due (n + 1) = addIds l st due n ++ [⟨st, due + n, []⟩] := by rw [addIds, idSpan, addIds, List.append_assoc]
theorem addIds_zero (l : List EntM) (st due : Nat) : addIds l st due 0 = l := by rw [addIds, idSpan, List.append_nil]
theorem Only.drew {S : Nat → Prop} {w w1 : World} (h : Only S w w1) : Only S w w1.drew := ⟨h.os, h.tape, h.output, h.size, h.block⟩
theorem idSpan_length (st due : Nat) : ∀ n, (idSpan st due n).length = n
  | 0 => rfl
  | n + 1 => by rw [idSpan, List.length_append, idSpan_length st due n]; rfl
theorem addIds_length (l : List EntM) (st due n : Nat) : (addIds l st due n).length = l.length + n := by rw [addIds, List.length_append, idSpan_length]
theorem passed_any (s : StM) (pe : Int) (aa : Option Addr) (cc : Nat) (ct sp : Nat) (w : World) (hv : IdsAt w (.slice aa s.kept.length cc) s.kept) (hl : s.kept.length ≤ 200) (h1 : s.step = sp + 1) (hsb : s.step ≤ 1000) (hgb : s.got ≤ 1000) (hcb : ct ≤ 1000) :
    Calls Try.prog 48 #[.agg #[.int .i64 s.role, .int .i64 s.step, .int .i64 s.sent, .int .i64 s.got, .int .i64 s.prev, .int .i64 s.skip, .int .i64 s.cap, .int .i64 s.secret, .int .i64 pe, .slice aa s.kept.length cc], .int .i64 ct] w fun e w' => (∃ (yv : Option Addr) (yc : Nat), e = .returned (.tuple #[.agg #[.int .i64 s.role, .int .i64 s.step, .int .i64 s.sent, .int .i64 s.got, .int .i64 s.prev, .int .i64 s.skip, .int .i64 s.cap, .int .i64 s.secret, .int .i64 pe, .slice yv (addIds s.kept sp s.got (ct - s.got)).length yc], .bool (decide ((ofL s.kept sp : Int) + ((ct - s.got : Nat) : Int) ≤ (s.skip : Int)))]) ∧ IdsAt w' (.slice yv (addIds s.kept sp s.got (ct - s.got)).length yc) (addIds s.kept sp s.got (ct - s.got)) ∧ FreshV w.heap.size (.slice yv (addIds s.kept sp s.got (ct - s.got)).length yc)) ∧ Below w.heap.size w w' := by
  obtain ⟨i0, hi0, hz0, hz1, hz2⟩ := info_parts Try.infoID
  obtain ⟨kp, hkp⟩ : ∃ kp, kp = s.kept := ⟨_, rfl⟩
  rw [← hkp] at hv hl ⊢
  clear hkp
  have hst : (s.step : Int) - 1 = (sp : Int) := by omega
  have hstw : IntKind.i64.wrap ((s.step : Int) - 1) = (sp : Int) := by rw [hst, wrap_i64 _ (by omega) (by omega)]
  have HS1 := hid h1; clear h1
  go_enter Try.func48, Try.ntmps48
  go_upto_region 1 with fail
  obtain ⟨wb, ewb, hB, hR, hW, hlt⟩ := alloc2e w (.cells #[.int .i64 s.role, .int .i64 s.step, .int .i64 s.sent, .int .i64 s.got, .int .i64 s.prev, .int .i64 s.skip, .int .i64 s.cap, .int .i64 s.secret, .int .i64 pe, .slice aa kp.length cc] 38) (.cells #[.int .i64 0, .int .i64 0, .int .i64 0, .int .i64 0, .int .i64 0, .int .i64 0, .int .i64 0, .int .i64 0, .int .i64 0, .slice none 0 0] 38); rw [← ewb]; clear ewb; have HV := hid (hv.next hW); have HB := hid hB; have HR := hid hR; have HW := hid hW; clear hB hR hW hv; go_wp2
  go_loopg [6, 7, 8] 2000 (fun g v n c wr => ∃ (j yc : Nat) (yv : Option Addr), ∃ m : List EntM, c = .int .i64 j ∧ v = .slice yv m.length yc ∧ n = .int .i64 (ofL (kp.take j) sp : Nat) ∧ j ≤ kp.length ∧ g + j = 2000 ∧ m.length = j ∧ m = kp.take j ∧ wr.ownsRow wb.heap.size 130 2 (v) m.length (idsC m) ∧ Below wb.heap.size wb wr)
  case atStart => exact ⟨0, 0, none, [], rfl, rfl, rfl, by omega, by omega, rfl, rfl, World.ownsRow_nil _ _ _ _, Below.refl _ _⟩
  case round =>
    obtain ⟨j, yc, yv, m, rfl, rfl, rfl, hj, hg, hmj, hm, hown, hb⟩ := hrel; have HMJ := hid hmj
    have hmj' : m.length ≤ j := by omega
    clear hmj; have hsz := hb.size; have hlr := HV.out.next hb
    have hBr := (hb.block w.heap.size (by omega)).trans HB.out
    have k9 : wr.cell? ⟨w.heap.size, 9, none⟩ = some (.slice aa kp.length cc) := cell_of_row wr _ 9 _ _ _ hBr; have k1 : wr.cell? ⟨w.heap.size, 1, none⟩ = some (.int .i64 s.step) := cell_of_row wr _ 1 _ _ _ hBr; have k3 : wr.cell? ⟨w.heap.size, 3, none⟩ = some (.int .i64 s.got) := cell_of_row wr _ 3 _ _ _ hBr; have HBR := hid hBr; have HBE := hid hb; have HM := hid hm; have hle := ofL_le (kp.take j) sp
    have hlt3 : (kp.take j).length ≤ 200 := by rw [List.length_take]; omega
    clear hb hm hBr
    by_cases hlt2 : j < kp.length
    · obtain ⟨b, off, hv', hgs, c0, c1⟩ := hlr.at hlt2; subst hv'
      have hjl : (j : Int) < (kp.length : Int) := by omega
      have hj0 : (0 : Int) ≤ (j : Int) := by omega
      have HT2 : Hid (kp.take (j + 1) = m ++ [kp.getD j default]) := by
        show _ = _
        rw [take_push kp default j hlt2, ← HM.out]
      have hof := ofL_take kp sp j hlt2
      obtain ⟨q, hq⟩ : ∃ q, q = ofL (kp.take j) sp := ⟨_, rfl⟩
      rw [← hq] at hle hof ⊢
      obtain ⟨en, hen⟩ : ∃ en, en = kp.getD j default := ⟨_, rfl⟩
      rw [← hen] at c0 c1 HT2 hof
      clear hen hlr hq
      go_upto_region 7 with (first | (at_builtin; go_loud (refine wpList_append_lies _ rfl (.tmp 17) (.tmp 23) _ rfl wb.heap.size 130 i0 _ 2 16 Try.underlying36 hi0 hz0 hz1 hz2 rfl (by omega) _ m.length (idsC m) rfl (hown.alloc _) ⟨wr.heap.size, 0, none⟩ 1 1 [.int .i64 en.step, .int .i64 en.count] rfl rfl (World.news_of_block (cs := #[.int .i64 en.step, .int .i64 en.count]) (t := 130) (fr := (0, 0)) (heap_alloc_new _ _)) (by simp [Value.oneCell']) (by omega) (by unfold maxLen; omega) (by omega) (by simp; omega) (wr.heap.size + 1) (by simp) ?_); intro g2 cap2 w2 hown2 hgrow hat hltx))
      have hg2 := grown_below (HBE.out.alloc hsz _) (hown.alloc _) hgrow; have hsz2 := hg2.size
      have hB3 := (hg2.block w.heap.size (by omega)).trans HB.out
      have z9 : w2.cell? ⟨w.heap.size, 9, none⟩ = some (.slice (some ⟨b, off, none⟩) kp.length cc) := cell_of_row w2 _ 9 _ _ _ hB3; have z1 : w2.cell? ⟨w.heap.size, 1, none⟩ = some (.int .i64 s.step) := cell_of_row w2 _ 1 _ _ _ hB3; obtain ⟨b', off', hv2, _, x0, _⟩ := (HV.out.next hg2).at hlt2
      injection hv2 with hv2
      injection hv2 with q1 q2 q3
      subst q1 q2
      have hen2 : (kp.getD j default).step = en.step := by
        have e1 := c0; have HX := (HV.out.next HBE.out).at hlt2; obtain ⟨b3, off3, hv3, _, y0, _⟩ := HX
        injection hv3 with hv3
        injection hv3 with q1 q2 q3
        subst q1 q2
        rw [e1] at y0
        injection y0 with y0
        injection y0 with _ y0
        omega
      rw [hen2] at x0
      have HG2 := hid hg2; have HO2 := hid hown2; clear c0 c1 k9 k1 k3 hB3 hg2 hown2 hgrow hat hen2 hown
      by_cases he : en.step = sp
      · rw [if_pos he] at hof
        have HO := hid hof
        rw [he] at x0
        have d1 : ((sp : Int) == (sp : Int)) = true := by simp
        clear hof
        go_quiet (fail)
        go_wp2
        go_roundg (gk - 1)
        case measure => omega
        case rel =>
          refine ⟨j + 1, cap2, some ⟨g2, 0, none⟩, m ++ [en], by simp, by simp, by rw [HO.out]; simp, by omega, by omega, by rw [List.length_append, HMJ.out]; rfl, by rw [HT2.out], ?_, ⟨HG2.out.os, HG2.out.tape, HG2.out.output, HG2.out.size, HG2.out.block⟩⟩
          rw [idsC_push, List.length_append]; exact HO2.out
      · rw [if_neg he] at hof
        have HO := hid hof
        have d1 : ((en.step : Int) == (sp : Int)) = false := by rw [beq_eq_false_iff_ne]; omega
        clear hof
        go_quiet (fail)
        go_wp2
        go_roundg (gk - 1)
        case measure => omega
        case rel =>
          refine ⟨j + 1, cap2, some ⟨g2, 0, none⟩, m ++ [en], by simp, by simp, by rw [HO.out]; simp, by omega, by omega, by rw [List.length_append, HMJ.out]; rfl, by rw [HT2.out], ?_, ⟨HG2.out.os, HG2.out.tape, HG2.out.output, HG2.out.size, HG2.out.block⟩⟩
          rw [idsC_push, List.length_append]; exact HO2.out
    · obtain rfl : j = kp.length := by omega
      rw [List.take_length] at hle ⊢
      have hmk : m = kp := by rw [HM.out, List.take_length]
      subst hmk
      obtain ⟨q, hq⟩ : ∃ q, q = ofL m sp := ⟨_, rfl⟩
      have HQ := hid hq
      rw [← hq] at hle ⊢
      have HO := hid hown; clear hown hlr hmj' HMJ HM hq; go_wp2
      go_loopg [6, 7, 9] 2000 (fun g v n c wx => ∃ (i yc : Nat) (yv : Option Addr), c = .int .i64 ((s.got : Int) + (i : Int)) ∧ v = .slice yv (addIds m sp s.got i).length yc ∧ n = .int .i64 ((q : Int) + (i : Int)) ∧ i ≤ ct - s.got ∧ g + i = 2000 ∧ wx.ownsRow wb.heap.size 130 2 (v) (addIds m sp s.got i).length (idsC (addIds m sp s.got i)) ∧ Below wb.heap.size wb wx)
      case atStart => exact ⟨0, yc, yv, by simp, by rw [addIds_zero], by simp, by omega, by omega, by rw [addIds_zero]; exact HO.out, HBE.out⟩
      case round =>
        clear HO HBE HBR k1 k3 k9; obtain ⟨i, yc, yv, rfl, rfl, rfl, hi, hg, hown, hb⟩ := hrel; have hsz := hb.size
        have hBr := (hb.block w.heap.size (by omega)).trans HB.out
        have hml : (addIds m sp s.got i).length ≤ 1200 := by rw [addIds_length]; omega
        have HBE := hid hb; have HBR := hid hBr; clear hb
        by_cases hlt2 : i < ct - s.got
        · have hcl : (s.got : Int) + (i : Int) < (ct : Int) := by omega
          have k1 : wr.cell? ⟨w.heap.size, 1, none⟩ = some (.int .i64 s.step) := cell_of_row wr _ 1 _ _ _ hBr; have HT : Hid (addIds m sp s.got (i + 1) = (addIds m sp s.got i) ++ [⟨sp, s.got + i, []⟩]) := addIds_succ _ _ _ _
          generalize (addIds m sp s.got i) = mm at *
          clear hBr
          go_wp2_with (first | (at_builtin; go_loud (refine wpList_append_lies _ rfl (.tmp 44) (.tmp 50) _ rfl wb.heap.size 130 i0 _ 2 16 Try.underlying36 hi0 hz0 hz1 hz2 rfl (by omega) _ mm.length (idsC mm) rfl (hown.alloc _) ⟨wr.heap.size, 0, none⟩ 1 1 [.int .i64 sp, .int .i64 ((s.got : Int) + (i : Int))] rfl rfl (World.news_of_block (cs := #[.int .i64 sp, .int .i64 ((s.got : Int) + (i : Int))]) (t := 130) (fr := (0, 0)) (heap_alloc_new _ _)) (by simp [Value.oneCell']) (by omega) (by unfold maxLen; omega) (by omega) (by simp; omega) (wr.heap.size + 1) (by simp) ?_); intro g2 cap2 w2 hown2 hgrow hat hltx))
          go_roundg (gk - 1)
          case measure => omega
          case rel =>
            refine ⟨i + 1, cap2, some ⟨g2, 0, none⟩, by simp; omega, by rw [HT.out]; simp, by simp; omega, by omega, by omega, ?_, ?_⟩
            · rw [HT.out, idsC_push, List.length_append, Int.natCast_add]; exact hown2
            · exact grown_below (HBE.out.alloc hsz _) (hown.alloc _) hgrow
        · obtain rfl : i = ct - s.got := by omega
          have hcl : ¬ (s.got : Int) + ((ct - s.got : Nat) : Int) < (ct : Int) := by omega
          have HO := hid hown
          have fB : ∀ i, wr.frozen? ⟨w.heap.size, i, none⟩ = false := fun i => frozen_of_row wr _ i _ _ HBR.out
          have hRr := (HBE.out.block (w.heap.size + 1) (by omega)).trans HR.out
          have k9 : wr.cell? ⟨w.heap.size, 9, none⟩ = some (.slice aa m.length cc) := cell_of_row wr _ 9 _ _ _ hBr; have HRR := hid hRr
          obtain ⟨mm, hmm⟩ : ∃ mm, mm = addIds m sp s.got (ct - s.got) := ⟨_, rfl⟩
          rw [← hmm] at HO hml ⊢
          have HMM := hid hmm; clear hmm; clear hown hRr hBr
          go_upto_region 15 with fail
          have hB2 : (wr.setCell ⟨w.heap.size, 9, none⟩ (.slice yv mm.length yc)).heap[w.heap.size]? = some (.cells #[.int .i64 s.role, .int .i64 s.step, .int .i64 s.sent, .int .i64 s.got, .int .i64 s.prev, .int .i64 s.skip, .int .i64 s.cap, .int .i64 s.secret, .int .i64 pe, .slice yv mm.length yc] 38) := heap_setCell_same _ _ _ _ _ _ HBR.out
          have hR2 := (heap_setCell_other wr ⟨w.heap.size, 9, none⟩ (w.heap.size + 1) (.slice yv mm.length yc) (by show w.heap.size + 1 ≠ w.heap.size; omega)).trans HRR.out
          have hO2 : (wr.setCell ⟨w.heap.size, 9, none⟩ (.slice yv mm.length yc)).ownsRow wb.heap.size 130 2 (.slice yv mm.length yc) mm.length (idsC mm) := ownsRow_setCell_below HO.out (by show w.heap.size < _; omega) _
          have hW2 : Below w.heap.size w (wr.setCell ⟨w.heap.size, 9, none⟩ (.slice yv mm.length yc)) := (below_tr HW.out HBE.out).setCell (by exact Nat.le_refl _) _
          clear k9 fB
          generalize (wr.setCell ⟨w.heap.size, 9, none⟩ (.slice yv mm.length yc)) = w2 at hB2 hR2 hO2 hW2 ⊢
          obtain ⟨k0, k1, k2, k3, k4, k5, k6, k7, k8, k9⟩ := cells10 hB2; obtain ⟨a0, a1, a2, a3, a4, a5, a6, a7, a8, a9⟩ := cells10 hR2
          have fA : ∀ i, w2.frozen? ⟨w.heap.size + 1, i, none⟩ = false := fun i => frozen_of_row w2 _ i _ _ hR2
          have HO2 := hid hO2; have HI2 : Hid (IdsAt w2 (.slice yv mm.length yc) mm) := idsAt_own (base := wb.heap.size) (e := 130) hO2; have HW2 := hid hW2; clear hB2 hR2 hO2 hW2 HB HR HW HO HBR HRR
          go_region
          all_goals go_wp2
          all_goals (try simp only [Exit.inBlock, Exit.then])
          all_goals (refine bodyPost_ret (v := .tuple #[.agg #[.int .i64 s.role, .int .i64 s.step, .int .i64 s.sent, .int .i64 s.got, .int .i64 s.prev, .int .i64 s.skip, .int .i64 s.cap, .int .i64 s.secret, .int .i64 pe, .slice yv mm.length yc], .bool (decide ((q : Int) + ((ct - s.got : Nat) : Int) ≤ (s.skip : Int)))]) ?_ ?_ ?_)
          all_goals first | (rw [results_cell_tmp (fn := Try.f48) rfl]; simp [go_sem, a0, a1, a2, a3, a4, a5, a6, a7, a8, a9]; done) | rfl | skip
          all_goals (rw [← HMM.out, ← HQ.out]; refine ⟨⟨yv, yc, rfl, ?_, fun k hk => by have h9 : wb.heap.size ≤ k := (HO2.out.lt k hk).1; omega⟩, ?_⟩)
          all_goals first | exact HI2.out.only (S := fun k => k = w.heap.size + 1) (by (repeat (first | (with_reducible refine onlyR_set ?_) | (with_reducible refine Only.drew ?_))); exact Only.refl _ _) (fun _ k hk q => by have h9 : wb.heap.size ≤ k := (HO2.out.lt k hk).1; omega) | (repeat (first | (with_reducible refine Below.setCell ?_ (by exact Nat.le_succ _) _) | (with_reducible refine Below.drew ?_))); exact HW2.out
end Go.Proofs.Ytabpkohcimiceab
