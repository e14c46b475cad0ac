import Derived.Test.YtabpkohcimiceabPack
import Derived.Test.YtabpkohcimiceabReadX
namespace Go.Proofs.Ytabpkohcimiceab
set_option maxRecDepth 100000
set_option maxHeartbeats 1000000
open Go.RowKit
set_option linter.unusedVariables false
theorem take_push {α : Type} (l : List α) (z : α) (i : Nat) (h : i < l.length) : l.take (i + 1) = l.take i ++ [l.getD i z] := by
  rw [List.take_succ_eq_append_getElem h, List.getD_eq_getElem?_getD, List.getElem?_eq_getElem h]; rfl
theorem find_hit (p : EntM → Bool) : ∀ (l : List EntM) (i : Nat), i < l.length → (∀ j, j < i → p (l.getD j default) = false) → p (l.getD i default) = true → l.find? p = some (l.getD i default)
  | [], i, h, _, _ => by simp at h
  | a :: l, 0, _, _, h => by
    have h' : p a = true := h
    rw [List.find?_cons, h']; rfl
  | a :: l, i + 1, hi, h0, h => by
    have ha : p a = false := h0 0 (by omega)
    rw [List.find?_cons, ha]
    exact find_hit p l i (by simpa using hi) (fun j hj => h0 (j + 1) (by omega)) h
theorem find_miss (p : EntM → Bool) : ∀ (l : List EntM), (∀ j, j < l.length → p (l.getD j default) = false) → l.find? p = none
  | [], _ => rfl
  | a :: l, h0 => by
    have ha : p a = false := h0 0 (by simp)
    rw [List.find?_cons, ha]
    exact find_miss p l (fun j hj => h0 (j + 1) (by simp; omega))
theorem isEnt_iff (a b : Nat) (e : EntM) : isEnt a b e = true ↔ e.step = a ∧ e.count = b := by rw [isEnt, Bool.and_eq_true, beq_iff_eq, beq_iff_eq]
theorem isEnt_false (a b : Nat) (e : EntM) (h : ¬ (e.step = a ∧ e.count = b)) : isEnt a b e = false := by
  cases q : isEnt a b e with
  | false => rfl
  | true => exact absurd ((isEnt_iff a b e).1 q) h
theorem ofStep_any (l : List EntM) (v : Value) (t : Nat) (w : World) (hl : EntsAt w v l) (hl2 : l.length ≤ 1000) :
    Calls Try.prog 103 #[v, .int .i64 t] w fun e w' => e = .returned (.int .i64 (ofL l t)) ∧ w' = w := by
  obtain ⟨a, cap, hva⟩ := hl.form; subst hva
  go_enter Try.func103, Try.ntmps103
  go_wp2
  go_loopg [5, 6] 2000 (fun g n c wr => ∃ j : Nat, c = .int .i64 j ∧ j ≤ l.length ∧ g + j = 2000 ∧ n = .int .i64 (ofL (l.take j) t) ∧ wr = w)
  case atStart => exact ⟨0, rfl, by omega, by omega, rfl, rfl⟩
  case round =>
    obtain ⟨j, rfl, hj, hg, rfl, rfl⟩ := hrel; have hle := ofL_le (l.take j) t
    have hlt2 : (l.take j).length ≤ 1000 := by rw [List.length_take]; omega
    by_cases hlt : j < l.length
    · obtain ⟨g, cap', hv', hc, hgs, c0, c1, c2⟩ := hl.cells hlt
      injection hv' with h1 h2 h3
      subst h1 h3
      have hjl : (j : Int) < (l.length : Int) := by omega
      have hof := ofL_take l t j hlt
      obtain ⟨q, hq⟩ : ∃ q, q = ofL (l.take j) t := ⟨_, rfl⟩
      rw [← hq] at hle hof ⊢
      by_cases he : (l.getD j default).step = t
      · rw [if_pos he] at hof
        rw [he] at c0
        have HO : Hid (ofL (l.take (j + 1)) t = q + 1) := hof; clear hof hq he; go_wp2
        go_roundg (gk - 1)
        case measure => omega
        case rel => exact ⟨j + 1, by simp, by omega, by omega, by rw [HO.out]; simp, rfl⟩
      · rw [if_neg he] at hof
        have HO : Hid (ofL (l.take (j + 1)) t = q) := hof
        have he' : ¬ ((l.getD j default).step : Int) = (t : Int) := by omega
        obtain ⟨z, hz⟩ : ∃ z, z = (l.getD j default).step := ⟨_, rfl⟩
        rw [← hz] at c0 he'
        clear hof hq he hz; go_wp2
        go_roundg (gk - 1)
        case measure => omega
        case rel => exact ⟨j + 1, by simp, by omega, by omega, by rw [HO.out], rfl⟩
    · obtain rfl : j = l.length := by omega
      rw [List.take_length]; go_wp2; go_ret; exact ⟨rfl, rfl⟩
def findV (o : Option EntM) : Value := match o with
  | some e => .tuple #[.string (str e.key), .bool true]
  | none => .tuple #[.string ⟨#[]⟩, .bool false]
theorem talkFind_any (l : List EntM) (v : Value) (st ct : Nat) (w : World) (hl : EntsAt w v l) (hl2 : l.length ≤ 1000) :
    Calls Try.prog 99 #[v, .int .i64 st, .int .i64 ct] w fun e w' => e = .returned (findV (l.find? (isEnt st ct))) ∧ w' = w := by
  obtain ⟨a, cap, hva⟩ := hl.form; subst hva
  go_enter Try.func99, Try.ntmps99
  go_wp2
  go_loopg [8] 2000 (fun g c wr => ∃ j : Nat, c = .int .i64 j ∧ j ≤ l.length ∧ g + j = 2000 ∧ (∀ i, i < j → isEnt st ct (l.getD i default) = false) ∧ wr = w)
  case atStart => exact ⟨0, rfl, by omega, by omega, fun i h => absurd h (Nat.not_lt_zero _), rfl⟩
  case round =>
    obtain ⟨j, rfl, hj, hg, hno, rfl⟩ := hrel
    by_cases hlt : j < l.length
    · obtain ⟨g, cap', hv', hc, hgs, c0, c1, c2⟩ := hl.cells hlt
      injection hv' with h1 h2 h3
      subst h1 h3
      have hjl : (j : Int) < (l.length : Int) := by omega
      have hhit := find_hit (isEnt st ct) l j hlt hno
      have hnext : isEnt st ct (l.getD j default) = false → ∀ i, i < j + 1 → isEnt st ct (l.getD i default) = false := by
        intro q i hi
        rcases Nat.lt_or_ge i j with h | h
        · exact hno i h
        · obtain rfl : i = j := by omega
          exact q
      have HN : Hid (isEnt st ct (l.getD j default) = false → ∀ i, i < j + 1 → isEnt st ct (l.getD i default) = false) := hnext
      by_cases he : (l.getD j default).step = st
      · have e1 : ((l.getD j default).step : Int) = (st : Int) := by omega
        by_cases hf : (l.getD j default).count = ct
        · have HH : Hid (l.find? (isEnt st ct) = some (l.getD j default)) := hhit ((isEnt_iff _ _ _).2 ⟨he, hf⟩)
          have e2 : ((l.getD j default).count : Int) = (ct : Int) := by omega
          clear hhit hnext hno he hf HN
          obtain ⟨en, hen⟩ : ∃ en, en = l.getD j default := ⟨_, rfl⟩
          rw [← hen] at c0 c1 c2 e1 e2 HH
          clear hen; go_wp2; go_ret2
          refine ⟨?_, rfl⟩
          rw [HH.out]; rfl
        · have HF : Hid (isEnt st ct (l.getD j default) = false) := isEnt_false _ _ _ (fun q => hf q.2)
          have e2 : ¬ ((l.getD j default).count : Int) = (ct : Int) := by omega
          clear hhit hnext hno he hf
          obtain ⟨en, hen⟩ : ∃ en, en = l.getD j default := ⟨_, rfl⟩
          rw [← hen] at c0 c1 c2 e1 e2
          clear hen; go_wp2
          go_roundg (gk - 1)
          case measure => omega
          case rel => exact ⟨j + 1, by simp, by omega, by omega, HN.out HF.out, rfl⟩
      · have HF : Hid (isEnt st ct (l.getD j default) = false) := isEnt_false _ _ _ (fun q => he q.1)
        have e1 : ¬ ((l.getD j default).step : Int) = (st : Int) := by omega
        clear hhit hnext hno he
        obtain ⟨en, hen⟩ : ∃ en, en = l.getD j default := ⟨_, rfl⟩
        rw [← hen] at c0 c1 c2 e1
        clear hen; go_wp2
        go_roundg (gk - 1)
        case measure => omega
        case rel => exact ⟨j + 1, by simp, by omega, by omega, HN.out HF.out, rfl⟩
    · obtain rfl : j = l.length := by omega
      have HH : Hid (l.find? (isEnt st ct) = none) := find_miss (isEnt st ct) l hno; clear hno; go_wp2; go_ret2
      refine ⟨?_, rfl⟩
      rw [HH.out]; rfl
theorem ents_push (m : List EntM) (e : EntM) : entsCells (m ++ [e]) = entsCells m ++ [.int .i64 e.step, .int .i64 e.count, .string (str e.key)] := by
  rw [entsCells_append]; simp [entsCells, entCells]
theorem without_any (l : List EntM) (v : Value) (st ct : Nat) (w : World) (hl : EntsAt w v l) (hl2 : l.length ≤ 1000) :
    Calls Try.prog 100 #[v, .int .i64 st, .int .i64 ct] w fun e w' => (∃ v, e = .returned v ∧ w'.ownsRow w.heap.size 142 3 v (l.filter fun e => !isEnt st ct e).length (entsCells (l.filter fun e => !isEnt st ct e))) ∧ Below w.heap.size w w' := by
  obtain ⟨i0, hi0, hz0, hz1, hz2⟩ := info_parts Try.infoKept; obtain ⟨a, cap, hva⟩ := hl.form; subst hva
  go_enter Try.func100, Try.ntmps100
  go_wp2
  go_loopg [7, 8] 2000 (fun g v c wr => ∃ (j gg cap : Nat), ∃ m : List EntM, c = .int .i64 j ∧ v = .slice (some ⟨gg, 0, none⟩) m.length cap ∧ j ≤ l.length ∧ g + j = 2000 ∧ m.length ≤ j ∧ m = (l.take j).filter (fun e => !isEnt st ct e) ∧ wr.ownsRow w.heap.size 142 3 v m.length (entsCells m) ∧ Below w.heap.size w wr)
  case atStart => exact ⟨0, _, _, [], rfl, rfl, by omega, by omega, by simp, rfl, World.ownsRow_lit w #[] 0 (Nat.le_refl _) (by unfold maxLen; omega) rfl, (Below.refl _ _).alloc (Nat.le_refl _) _⟩
  case round =>
    obtain ⟨j, gg, capm, m, rfl, rfl, hj, hg, hmj, hm, hown, hb⟩ := hrel; have hsz := hb.size; have HB := hid hb
    have HM : Hid (m = (l.take j).filter (fun e => !isEnt st ct e)) := hm
    have hlr := hl.next hb; clear hb hm
    by_cases hlt : j < l.length
    · obtain ⟨g, cap', hv', hc, hgs, c0, c1, c2⟩ := hlr.cells hlt
      injection hv' with h1 h2 h3
      subst h1 h3
      have hjl : (j : Int) < (l.length : Int) := by omega
      have HT : Hid (∀ b, isEnt st ct (l.getD j default) = b → (l.take (j + 1)).filter (fun e => !isEnt st ct e) = m ++ if b = true then [] else [l.getD j default]) := by
        intro b hb
        rw [take_push l default j hlt, List.filter_append, ← HM.out, List.filter_cons, List.filter_nil, hb]
        cases b <;> rfl
      by_cases he : (l.getD j default).step = st ∧ (l.getD j default).count = ct
      · have HF : Hid (isEnt st ct (l.getD j default) = true) := (isEnt_iff _ _ _).2 he
        have HT2 : Hid ((l.take (j + 1)).filter (fun e => !isEnt st ct e) = m) := by
          show _ = _
          rw [HT.out _ HF.out, if_pos rfl, List.append_nil]
        obtain ⟨he1, he2⟩ := he
        have e1 : ((l.getD j default).step : Int) = (st : Int) := by omega
        have e2 : ((l.getD j default).count : Int) = (ct : Int) := by omega
        obtain ⟨en, hen⟩ : ∃ en, en = l.getD j default := ⟨_, rfl⟩
        rw [← hen] at c0 c1 c2 e1 e2
        clear hen HT HF he1 he2 hlr; have HO := hid hown; clear hown; go_wp2
        go_roundg (gk - 1)
        case measure => omega
        case rel => exact ⟨j + 1, gg, capm, m, by simp, rfl, by omega, by omega, by omega, by rw [HT2.out], HO.out, HB.out⟩
      · have HF : Hid (isEnt st ct (l.getD j default) = false) := isEnt_false _ _ _ he
        have HT2 : Hid ((l.take (j + 1)).filter (fun e => !isEnt st ct e) = m ++ [l.getD j default]) := by
          show _ = _
          rw [HT.out _ HF.out, if_neg (by simp)]
        have hcase : (¬ ((l.getD j default).step : Int) = (st : Int)) ∨ (((l.getD j default).step : Int) = (st : Int) ∧ ¬ ((l.getD j default).count : Int) = (ct : Int)) := by omega
        obtain ⟨en, hen⟩ : ∃ en, en = l.getD j default := ⟨_, rfl⟩
        rw [← hen] at c0 c1 c2 hcase HT2
        clear hen HT HF he hlr
        rcases hcase with e1 | ⟨e1, e2⟩
        · go_wp2_with (first | (at_builtin; go_loud (refine wpList_append_lies _ rfl (.tmp 32) (.tmp 37) _ rfl w.heap.size 142 i0 _ 3 32 Try.underlying82 hi0 hz0 hz1 hz2 rfl (by omega) _ m.length (entsCells m) rfl (hown.alloc _) ⟨wr.heap.size, 0, none⟩ 1 1 [.int .i64 en.step, .int .i64 en.count, .string (str en.key)] rfl rfl (World.news_of_block (cs := #[.int .i64 en.step, .int .i64 en.count, .string (str en.key)]) (t := 142) (fr := (0, 0)) (heap_alloc_new _ _)) (by simp [Value.oneCell']) (by omega) (by unfold maxLen; omega) (by omega) (by simp; omega) (wr.heap.size + 1) (by simp) ?_); intro g2 cap2 w2 hown2 hgrow hat hlt2))
          go_roundg (gk - 1)
          case measure => omega
          case rel =>
            refine ⟨j + 1, g2, cap2, m ++ [en], by simp, by simp, by omega, by omega, by simp; omega, by rw [HT2.out], ?_, ?_⟩
            · rw [ents_push, List.length_append]; exact hown2
            · exact grown_below (HB.out.alloc hsz _) (hown.alloc _) hgrow
        · have HS : Hid (en.step = st) := by
            show _ = _
            omega
          go_wp2_with (first | (at_builtin; go_loud (refine wpList_append_lies _ rfl (.tmp 32) (.tmp 37) _ rfl w.heap.size 142 i0 _ 3 32 Try.underlying82 hi0 hz0 hz1 hz2 rfl (by omega) _ m.length (entsCells m) rfl (hown.alloc _) ⟨wr.heap.size, 0, none⟩ 1 1 [.int .i64 st, .int .i64 en.count, .string (str en.key)] rfl rfl (World.news_of_block (cs := #[.int .i64 st, .int .i64 en.count, .string (str en.key)]) (t := 142) (fr := (0, 0)) (heap_alloc_new _ _)) (by simp [Value.oneCell']) (by omega) (by unfold maxLen; omega) (by omega) (by simp; omega) (wr.heap.size + 1) (by simp) ?_); intro g2 cap2 w2 hown2 hgrow hat hlt2))
          go_roundg (gk - 1)
          case measure => omega
          case rel =>
            refine ⟨j + 1, g2, cap2, m ++ [en], by simp, by simp, by omega, by omega, by simp; omega, by rw [HT2.out], ?_, ?_⟩
            · rw [ents_push, List.length_append, HS.out]; exact hown2
            · exact grown_below (HB.out.alloc hsz _) (hown.alloc _) hgrow
    · obtain rfl : j = l.length := by omega
      have HO := hid hown; clear hown hlr; go_wp2; go_ret; have e := HM.out
      rw [List.take_length] at e
      rw [← e]; exact ⟨⟨_, rfl, HO.out⟩, HB.out⟩
theorem greatest_any (l : List EntM) (v : Value) (most : Nat) (w : World) (hl : EntsAt w v l) (hl2 : l.length ≤ 1000) (hm2 : most ≤ 1000) :
    Calls Try.prog 69 #[v, .int .i64 most] w fun e w' => (∃ v, e = .returned v ∧ w'.ownsRow w.heap.size 142 3 v (l.drop (l.length - most)).length (entsCells (l.drop (l.length - most)))) ∧ Below w.heap.size w w' := by
  obtain ⟨i0, hi0, hz0, hz1, hz2⟩ := info_parts Try.infoKept; obtain ⟨a, cap, hva⟩ := hl.form; subst hva
  go_enter Try.func69, Try.ntmps69
  go_wp2
  go_loopg [5, 6] 2000 (fun g v c wr => ∃ (j gg cap : Nat), ∃ m : List EntM, c = .int .i64 j ∧ v = .slice (some ⟨gg, 0, none⟩) m.length cap ∧ j ≤ l.length ∧ g + j = 2000 ∧ m.length ≤ j ∧ m = (l.take j).drop (l.length - most) ∧ wr.ownsRow w.heap.size 142 3 v m.length (entsCells m) ∧ Below w.heap.size w wr)
  case atStart => exact ⟨0, _, _, [], rfl, rfl, by omega, by omega, by simp, by simp, World.ownsRow_lit w #[] 0 (Nat.le_refl _) (by unfold maxLen; omega) rfl, (Below.refl _ _).alloc (Nat.le_refl _) _⟩
  case round =>
    obtain ⟨j, gg, capm, m, rfl, rfl, hj, hg, hmj, hm, hown, hb⟩ := hrel; have hsz := hb.size; have HB := hid hb; have HM : Hid (m = (l.take j).drop (l.length - most)) := hm; have hlr := hl.next hb; clear hb hm
    by_cases hlt : j < l.length
    · obtain ⟨g, cap', hv', hc, hgs, c0, c1, c2⟩ := hlr.cells hlt
      injection hv' with h1 h2 h3
      subst h1 h3
      have hjl : (j : Int) < (l.length : Int) := by omega
      by_cases he : l.length - j ≤ most
      · have HT2 : Hid ((l.take (j + 1)).drop (l.length - most) = m ++ [l.getD j default]) := by
          show _ = _
          rw [take_push l default j hlt, List.drop_append, List.length_take, ← HM.out, show l.length - most - min j l.length = 0 by omega, List.drop_zero]
        have e1 : (l.length : Int) - (j : Int) ≤ (most : Int) := by omega
        obtain ⟨en, hen⟩ : ∃ en, en = l.getD j default := ⟨_, rfl⟩
        rw [← hen] at c0 c1 c2 HT2
        clear hen he hlr
        go_wp2_with (first | (at_builtin; go_loud (refine wpList_append_lies _ rfl (.tmp 20) (.tmp 25) _ rfl w.heap.size 142 i0 _ 3 32 Try.underlying82 hi0 hz0 hz1 hz2 rfl (by omega) _ m.length (entsCells m) rfl (hown.alloc _) ⟨wr.heap.size, 0, none⟩ 1 1 [.int .i64 en.step, .int .i64 en.count, .string (str en.key)] rfl rfl (World.news_of_block (cs := #[.int .i64 en.step, .int .i64 en.count, .string (str en.key)]) (t := 142) (fr := (0, 0)) (heap_alloc_new _ _)) (by simp [Value.oneCell']) (by omega) (by unfold maxLen; omega) (by omega) (by simp; omega) (wr.heap.size + 1) (by simp) ?_); intro g2 cap2 w2 hown2 hgrow hat hlt2))
        go_roundg (gk - 1)
        case measure => omega
        case rel =>
          refine ⟨j + 1, g2, cap2, m ++ [en], by simp, by simp, by omega, by omega, by simp; omega, by rw [HT2.out], ?_, ?_⟩
          · rw [ents_push, List.length_append]; exact hown2
          · exact grown_below (HB.out.alloc hsz _) (hown.alloc _) hgrow
      · have HT2 : Hid ((l.take (j + 1)).drop (l.length - most) = m) := by
          show _ = _
          rw [HM.out, List.drop_of_length_le (by rw [List.length_take]; omega), List.drop_of_length_le (by rw [List.length_take]; omega)]
        have e1 : ¬ (l.length : Int) - (j : Int) ≤ (most : Int) := by omega
        have HO := hid hown; clear hown he hlr; go_wp2
        go_roundg (gk - 1)
        case measure => omega
        case rel => exact ⟨j + 1, gg, capm, m, by simp, rfl, by omega, by omega, by omega, by rw [HT2.out], HO.out, HB.out⟩
    · obtain rfl : j = l.length := by omega
      have HO := hid hown; clear hown hlr; go_wp2; go_ret; have e := HM.out
      rw [List.take_length] at e
      rw [← e]; exact ⟨⟨_, rfl, HO.out⟩, HB.out⟩
theorem copyOf_any (l : List EntM) (v : Value) (w : World) (hl : EntsAt w v l) (hl2 : l.length ≤ 1000) :
    Calls Try.prog 104 #[v] w fun e w' => (∃ v, e = .returned v ∧ w'.ownsRow w.heap.size 142 3 v l.length (entsCells l)) ∧ Below w.heap.size w w' := by
  have c1 := fun w hl => greatest_any l v l.length w hl hl2 hl2
  rw [Nat.sub_self, List.drop_zero] at c1
  obtain ⟨a, cap, hva⟩ := hl.form; subst hva
  go_enter Try.func104, Try.ntmps104
  go_wp2_with (first | (go_at_call 69; with_reducible refine (c1 _ hl).mono ?_; rintro e w2 ⟨⟨v2, rfl, hv2⟩, hb2⟩))
  go_ret; exact ⟨⟨_, rfl, hv2⟩, hb2⟩
end Go.Proofs.Ytabpkohcimiceab
