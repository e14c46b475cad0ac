import Derived.Test.YtabpkohcimiceabGreatLink
import Derived.Test.YtabpkohcimiceabGreatKeptC
namespace Go.Proofs.YtabpkohcimiceabGreat
set_option maxRecDepth 100000
set_option maxHeartbeats 1000000
open Go.RowKit
set_option linter.unusedVariables false
theorem span_any (k : List UInt8) (step due till : Nat) (w : World) (hk : k.length = 8) (hd : due ≤ 1000) (ht : till ≤ 1000) :
    Calls Tryz.prog 157 #[.string (str k), .int .i64 step, .int .i64 due, .int .i64 till] w fun e w' => (∃ v, e = .returned v ∧ w'.ownsRow w.heap.size 119 3 v (till - due) (entsCells (spanL k step due (till - due)))) ∧ Below w.heap.size w w' := by
  obtain ⟨i0, hi0, hz0, hz1, hz2⟩ := info_parts Tryz.infoEntry
  go_enter Tryz.func157, Tryz.ntmps157
  go_wp2
  go_loopg [9, 10, 11] 2000 (fun g v c x wr => ∃ (i : Nat) (xv : Option Addr) (xn xc : Nat), v = .slice xv xn xc ∧ c = .int .i64 ((due : Int) + (i : Int)) ∧ i ≤ till - due ∧ g + i = 2000 ∧ wr.ownsRow w.heap.size 119 3 v i (entsCells (spanL k step due i)) ∧ Below w.heap.size w wr)
  case atStart => exact ⟨0, none, 0, 0, rfl, by simp, by omega, by omega, World.ownsRow_nil _ _ _ _, Below.refl _ _⟩
  case round =>
    obtain ⟨i, xv, xn, xc, rfl, rfl, hi, hg, hown, hb⟩ := hrel; have hsz := hb.size; have HB := hid hb; clear hb
    by_cases hlt : i < till - due
    · have h1 : (due : Int) + (i : Int) < (till : Int) := by omega
      have hi2 : i ≤ 1000 := by omega
      have ck := fun w => keyOf_any k ((due : Int) + (i : Int) - (due : Int)) w hk (by omega) (by omega)
      have ck2 := fun w => keyOf_any k (i : Int) w hk (by omega) (by omega)
      rw [show ((due : Int) + (i : Int) - (due : Int)).toNat = i by omega] at ck
      rw [show ((i : Int)).toNat = i by omega] at ck2
      have HO := hid hown; clear hown
      go_upto_region 6 with (first | (go_at_call 109; (first | go_must (with_reducible refine (ck _).mono ?_) | go_loud (with_reducible refine (ck2 _).mono ?_)); rintro e w2 ⟨rfl, hb2⟩))
      have hown := ownsRow_below HO.out hb2; have hsz2 := hb2.size; have HB2 : Hid (Below w.heap.size w w2) := below_tr HB.out hb2; have hbd : (spanL k step due i).length = i := spanL_length _ _ _ _
      have HP : Hid (entsCells (spanL k step due (i + 1)) = entsCells (spanL k step due i) ++ [.int .i64 step, .int .i64 ((due : Int) + (i : Int)), .string (str (keyK (chainK k i)))]) := by
        show _ = _
        rw [spanL, ents_push]
        simp only [Int.natCast_add]
      clear hb2 ck ck2 HO HB
      go_wp2_with (first | (at_builtin; go_loud (refine wpList_append_lies _ rfl (.tmp 23) (.tmp 28) _ rfl w.heap.size 119 i0 _ 3 32 Tryz.underlying61 hi0 hz0 hz1 hz2 rfl (by omega) _ i (entsCells (spanL k step due i)) rfl (hown.alloc _) ⟨w2.heap.size, 0, none⟩ 1 1 [.int .i64 step, .int .i64 ((due : Int) + (i : Int)), .string (str (keyK (chainK k i)))] rfl rfl (World.news_of_block (cs := #[.int .i64 step, .int .i64 ((due : Int) + (i : Int)), .string (str (keyK (chainK k i)))]) (t := 119) (fr := (0, 0)) (heap_alloc_new _ _)) (by simp [Value.oneCell']) (by omega) (by unfold maxLen; omega) (by omega) (by simp; omega) (w2.heap.size + 1) (by simp) ?_); intro g2 cap2 w3 hown2 hgrow hat hlt2))
      go_roundg (gk - 1)
      case measure => omega
      case rel =>
        refine ⟨i + 1, _, _, _, rfl, by simp [Int.add_assoc], by omega, by omega, ?_, ?_⟩
        · rw [HP.out]; exact hown2
        · exact grown_below (HB2.out.alloc (by omega) _) (hown.alloc _) hgrow
    · obtain rfl : i = till - due := by omega
      have h1 : ¬ (due : Int) + ((till - due : Nat) : Int) < (till : Int) := by omega
      have HO := hid hown; clear hown; go_wp2; go_ret; exact ⟨⟨_, rfl, HO.out⟩, HB.out⟩
theorem joined_any (a b : List EntM) (va vb : Value) (w : World) (ha : EntsAt w va a) (hb : EntsAt w vb b) (hla : a.length ≤ 1000) (hlb : b.length ≤ 1000) :
    Calls Tryz.prog 158 #[va, vb] w fun e w' => (∃ v, e = .returned v ∧ w'.ownsRow w.heap.size 119 3 v (a ++ b).length (entsCells (a ++ b))) ∧ Below w.heap.size w w' := by
  obtain ⟨i0, hi0, hz0, hz1, hz2⟩ := info_parts Tryz.infoEntry; obtain ⟨xa, ca, hva⟩ := ha.form; obtain ⟨xb, cb, hvb⟩ := hb.form; subst hva hvb
  go_enter Tryz.func158, Tryz.ntmps158
  go_wp2
  go_loopg [5, 6] 2000 (fun g v c wr => ∃ (j : Nat) (xv : Option Addr) (xn xc : Nat), v = .slice xv xn xc ∧ c = .int .i64 j ∧ j ≤ a.length ∧ g + j = 2000 ∧ wr.ownsRow w.heap.size 119 3 v j (entsCells (a.take j)) ∧ Below w.heap.size w wr)
  case atStart => exact ⟨0, none, 0, 0, rfl, rfl, by omega, by omega, World.ownsRow_nil _ _ _ _, Below.refl _ _⟩
  case round =>
    obtain ⟨j, xv, xn, xc, rfl, rfl, hj, hg, hown, hw⟩ := hrel; have hsz := hw.size; have HB := hid hw; have hlr := ha.next hw; clear hw
    by_cases hlt : j < a.length
    · obtain ⟨g, cap', hv', hc, hgs, c0, c1, c2⟩ := hlr.cells hlt
      injection hv' with h1 h2 h3
      subst h1 h3
      have hjl : (j : Int) < (a.length : Int) := by omega
      have HT : Hid (entsCells (a.take (j + 1)) = entsCells (a.take j) ++ [.int .i64 ((a.getD j default).step : Int), .int .i64 ((a.getD j default).count : Int), .string (str (a.getD j default).key)]) := by
        show _ = _
        rw [take_push a default j hlt, ents_push]
      obtain ⟨en, hen⟩ : ∃ en, en = a.getD j default := ⟨_, rfl⟩
      rw [← hen] at c0 c1 c2 HT
      clear hen hlr
      go_wp2_with (first | (at_builtin; go_loud (refine wpList_append_lies _ rfl (.tmp 14) (.tmp 19) _ rfl w.heap.size 119 i0 _ 3 32 Tryz.underlying61 hi0 hz0 hz1 hz2 rfl (by omega) _ j (entsCells (a.take j)) rfl (hown.alloc _) ⟨wr.heap.size, 0, none⟩ 1 1 [.int .i64 en.step, .int .i64 en.count, .string (str en.key)] rfl rfl (World.news_of_block (cs := #[.int .i64 en.step, .int .i64 en.count, .string (str en.key)]) (t := 119) (fr := (0, 0)) (heap_alloc_new _ _)) (by simp [Value.oneCell']) (by omega) (by unfold maxLen; omega) (by omega) (by simp; omega) (wr.heap.size + 1) (by simp) ?_); intro g2 cap2 w3 hown2 hgrow hat hlt2))
      go_roundg (gk - 1)
      case measure => omega
      case rel =>
        refine ⟨j + 1, _, _, _, rfl, by simp, by omega, by omega, ?_, ?_⟩
        · rw [HT.out]; exact hown2
        · exact grown_below (HB.out.alloc hsz _) (hown.alloc _) hgrow
    · obtain rfl : j = a.length := by omega
      rw [List.take_length] at hown
      have HO0 := hid hown; have HB0 : Hid (Below w.heap.size w wr) := HB.out; clear hown hlr; go_wp2
      go_loopg [5, 7] 2000 (fun g v c wx => ∃ (j : Nat) (xv : Option Addr) (xn xc : Nat), v = .slice xv xn xc ∧ c = .int .i64 j ∧ j ≤ b.length ∧ g + j = 2000 ∧ wx.ownsRow w.heap.size 119 3 v (a.length + j) (entsCells (a ++ b.take j)) ∧ Below w.heap.size w wx)
      case atStart => exact ⟨0, xv, xn, xc, rfl, rfl, by omega, by omega, by rw [List.take_zero, List.append_nil]; exact HO0.out, HB0.out⟩
      case round =>
        obtain ⟨j, xv, xn, xc, rfl, rfl, hj, hg, hown, hw⟩ := hrel; have hsz := hw.size; have HB := hid hw; have hlr := hb.next hw; clear hw
        by_cases hlt : j < b.length
        · obtain ⟨g, cap', hv', hc, hgs, c0, c1, c2⟩ := hlr.cells hlt
          injection hv' with h1 h2 h3
          subst h1 h3
          have hjl : (j : Int) < (b.length : Int) := by omega
          have HT : Hid (entsCells (a ++ b.take (j + 1)) = entsCells (a ++ b.take j) ++ [.int .i64 ((b.getD j default).step : Int), .int .i64 ((b.getD j default).count : Int), .string (str (b.getD j default).key)]) := by
            show _ = _
            rw [take_push b default j hlt, ← List.append_assoc, ents_push]
          obtain ⟨en, hen⟩ : ∃ en, en = b.getD j default := ⟨_, rfl⟩
          rw [← hen] at c0 c1 c2 HT
          clear hen hlr
          go_wp2_with (first | (at_builtin; go_loud (refine wpList_append_lies _ rfl (.tmp 27) (.tmp 32) _ rfl w.heap.size 119 i0 _ 3 32 Tryz.underlying61 hi0 hz0 hz1 hz2 rfl (by omega) _ (a.length + j) (entsCells (a ++ b.take j)) rfl (hown.alloc _) ⟨wr.heap.size, 0, none⟩ 1 1 [.int .i64 en.step, .int .i64 en.count, .string (str en.key)] rfl rfl (World.news_of_block (cs := #[.int .i64 en.step, .int .i64 en.count, .string (str en.key)]) (t := 119) (fr := (0, 0)) (heap_alloc_new _ _)) (by simp [Value.oneCell']) (by omega) (by unfold maxLen; omega) (by omega) (by simp; omega) (wr.heap.size + 1) (by simp) ?_); intro g2 cap2 w3 hown2 hgrow hat hlt2))
          go_roundg (gk - 1)
          case measure => omega
          case rel =>
            refine ⟨j + 1, _, _, _, rfl, by simp, by omega, by omega, ?_, ?_⟩
            · rw [HT.out]; exact hown2
            · exact grown_below (HB.out.alloc hsz _) (hown.alloc _) hgrow
        · obtain rfl : j = b.length := by omega
          rw [List.take_length] at hown
          have HO := hid hown; clear hown hlr; go_wp2; go_ret; rw [List.length_append]; exact ⟨⟨_, rfl, HO.out⟩, HB.out⟩
theorem filter_push (p : EntM → Bool) (l : List EntM) (j : Nat) (h : j < l.length) : (l.take (j + 1)).filter p = (l.take j).filter p ++ if p (l.getD j default) = true then [l.getD j default] else [] := by
  rw [take_push l default j h, List.filter_append, List.filter_cons, List.filter_nil]
theorem refGreatest_any (l : List EntM) (v : Value) (n : Nat) (w : World) (hl : EntsAt w v l) (hl2 : l.length ≤ 1000) (hn : n ≤ 1000) :
    Calls Tryz.prog 160 #[v, .int .i64 n] w fun e w' => (∃ v, e = .returned v ∧ w'.ownsRow w.heap.size 119 3 v (greatL l n).length (entsCells (greatL l n))) ∧ Below w.heap.size w w' := by
  obtain ⟨i0, hi0, hz0, hz1, hz2⟩ := info_parts Tryz.infoEntry; obtain ⟨xa, ca, hva⟩ := hl.form; subst hva
  have HG : Hid (greatL l n = l.filter (fun a => decide ((l.filter (beforeL a)).length < n))) := rfl
  go_enter Tryz.func160, Tryz.ntmps160
  go_wp2
  go_loopg [5, 6, 7, 8, 9] 2000 (fun g v c x7 x8 x9 wr => ∃ (j : Nat) (xv : Option Addr) (xn xc : Nat), ∃ m : List EntM, v = .slice xv xn xc ∧ c = .int .i64 j ∧ j ≤ l.length ∧ g + j = 2000 ∧ m = (l.take j).filter (fun a => decide ((l.filter (beforeL a)).length < n)) ∧ m.length ≤ j ∧ wr.ownsRow w.heap.size 119 3 v m.length (entsCells m) ∧ Below w.heap.size w wr)
  case atStart => exact ⟨0, none, 0, 0, [], rfl, rfl, by omega, by omega, rfl, by simp, World.ownsRow_nil _ _ _ _, Below.refl _ _⟩
  case round =>
    obtain ⟨j, xv, xn, xc, m, rfl, rfl, hj, hg, hm, hmj, hown, hw⟩ := hrel; have HB := hid hw
    have HM : Hid (m = (l.take j).filter (fun a => decide ((l.filter (beforeL a)).length < n))) := hm
    have HO := hid hown; clear hw hm hown
    by_cases hlt : j < l.length
    · have hjl : (j : Int) < (l.length : Int) := by omega
      have HT : Hid ((l.take (j + 1)).filter (fun a => decide ((l.filter (beforeL a)).length < n)) = m ++ if decide ((l.filter (beforeL (l.getD j default))).length < n) = true then [l.getD j default] else []) := by
        show _ = _
        rw [filter_push _ l j hlt, ← HM.out]
      obtain ⟨en, hen⟩ : ∃ en, en = l.getD j default := ⟨_, rfl⟩
      have HEN : Hid (en = l.getD j default) := hen
      rw [← hen] at HT
      clear hen HM; go_wp2
      go_loopg [7, 8, 9] 2000 (fun g x7 c x9 wx => ∃ q : Nat, c = .int .i64 q ∧ q ≤ l.length ∧ g + q = 2000 ∧ x7 = .int .i64 (((l.take q).filter (beforeL en)).length : Nat) ∧ wx.ownsRow w.heap.size 119 3 (.slice xv xn xc) m.length (entsCells m) ∧ Below w.heap.size w wx)
      case atStart => exact ⟨0, rfl, by omega, by omega, rfl, HO.out, HB.out⟩
      case round =>
        clear HO HB; obtain ⟨q, rfl, hq, hg2, rfl, hown, hw⟩ := hrel; have hlr := hl.next hw; have hsz := hw.size; have HB := hid hw; have HO := hid hown
        have hfl : ((l.take q).filter (beforeL en)).length ≤ 1000 := by
          have := List.length_filter_le (beforeL en) (l.take q)
          rw [List.length_take] at this; omega
        obtain ⟨g, cap', hv', hc, hgs, c0, c1, c2⟩ := hlr.cells hlt
        rw [← HEN.out] at c0 c1 c2
        injection hv' with h1 h2 h3
        subst h1 h3; clear hw
        by_cases hqt : q < l.length
        · obtain ⟨g', cap'', hv'', hc', hgs', p0, p1, p2⟩ := hlr.cells hqt
          injection hv'' with q1 q2 q3
          injection q1 with q1
          injection q1 with q1
          subst q1 q3
          have hql : (q : Int) < (l.length : Int) := by omega
          have hq0 : (0 : Int) ≤ (q : Int) := by omega
          have hj0 : (0 : Int) ≤ (j : Int) := by omega
          have HF := filter_push (beforeL en) l q hqt
          obtain ⟨pe, hpe⟩ : ∃ pe, pe = l.getD q default := ⟨_, rfl⟩
          rw [← hpe] at p0 p1 p2 HF
          clear hpe hlr hown
          have cbe := fun w => before_any en pe w
          obtain ⟨fl, hfl2⟩ : ∃ x, x = ((l.take q).filter (beforeL en)).length := ⟨_, rfl⟩
          have HF2 : Hid (((l.take (q + 1)).filter (beforeL en)).length = fl + if beforeL en pe = true then 1 else 0) := by
            show _ = _
            rw [HF, List.length_append, ← hfl2]
            split <;> rfl
          rw [← hfl2] at hfl ⊢
          clear hfl2 HF
          cases hbe : beforeL en pe with
          | true =>
            rw [hbe] at cbe HF2
            clear hbe
            go_upto_region 9 with fail
            go_region_held3 (fun w' => w'.cell? ⟨g, j * 3, none⟩ = some (.int .i64 en.step) ∧ w'.cell? ⟨g, j * 3 + 1, none⟩ = some (.int .i64 en.count) ∧ w'.cell? ⟨g, j * 3 + 2, none⟩ = some (.string (str en.key)) ∧ w'.cell? ⟨g, q * 3, none⟩ = some (.int .i64 pe.step) ∧ w'.cell? ⟨g, q * 3 + 1, none⟩ = some (.int .i64 pe.count) ∧ w'.cell? ⟨g, q * 3 + 2, none⟩ = some (.string (str pe.key)))
              (simp (maxDischargeDepth := 40) [World.cell?_alloc_some, c0, c1, c2, p0, p1, p2])
              (first | (go_at_call 165; go_must (refine (cbe _).mono ?_); rintro e w1 ⟨rfl, x, y, rfl⟩))
            go_wp2
            go_roundg (gk - 1)
            case measure => omega
            case rel =>
              refine ⟨q + 1, by simp, by omega, by omega, by rw [HF2.out]; simp, ?_, ?_⟩
              · have ho := HO.out
                repeat (first | exact ho | refine ownsRow_drew ?_ | refine World.ownsRow.alloc ?_ _)
              · have hr := HB.out
                repeat (first | exact hr | apply Below.drew | (refine Below.alloc ?_ (by have := hr.size; first | omega | (simp; omega)) _))
          | false =>
            rw [hbe] at cbe HF2
            clear hbe
            go_upto_region 9 with fail
            go_region_held3 (fun w' => w'.cell? ⟨g, j * 3, none⟩ = some (.int .i64 en.step) ∧ w'.cell? ⟨g, j * 3 + 1, none⟩ = some (.int .i64 en.count) ∧ w'.cell? ⟨g, j * 3 + 2, none⟩ = some (.string (str en.key)) ∧ w'.cell? ⟨g, q * 3, none⟩ = some (.int .i64 pe.step) ∧ w'.cell? ⟨g, q * 3 + 1, none⟩ = some (.int .i64 pe.count) ∧ w'.cell? ⟨g, q * 3 + 2, none⟩ = some (.string (str pe.key)))
              (simp (maxDischargeDepth := 40) [World.cell?_alloc_some, c0, c1, c2, p0, p1, p2])
              (first | (go_at_call 165; go_must (refine (cbe _).mono ?_); rintro e w1 ⟨rfl, x, y, rfl⟩))
            go_wp2
            go_roundg (gk - 1)
            case measure => omega
            case rel =>
              refine ⟨q + 1, by simp, by omega, by omega, by rw [HF2.out]; simp, ?_, ?_⟩
              · have ho := HO.out
                repeat (first | exact ho | refine ownsRow_drew ?_ | refine World.ownsRow.alloc ?_ _)
              · have hr := HB.out
                repeat (first | exact hr | apply Below.drew | (refine Below.alloc ?_ (by have := hr.size; first | omega | (simp; omega)) _))
        · obtain rfl : q = l.length := by omega
          rw [List.take_length] at *
          clear hlr
          by_cases hab : (l.filter (beforeL en)).length < n
          · have habI : ((l.filter (beforeL en)).length : Int) < (n : Int) := by omega
            have HT2 : Hid ((l.take (j + 1)).filter (fun a => decide ((l.filter (beforeL a)).length < n)) = m ++ [en]) := by
              show _ = _
              rw [HT.out, if_pos (decide_eq_true hab)]
            clear HT
            generalize (l.filter (beforeL en)).length = fl at *
            go_wp2_with (first | (at_builtin; go_loud (refine wpList_append_lies _ rfl (.tmp 37) (.tmp 42) _ rfl w.heap.size 119 i0 _ 3 32 Tryz.underlying61 hi0 hz0 hz1 hz2 rfl (by omega) _ m.length (entsCells m) rfl (hown.alloc _) ⟨wr.heap.size, 0, none⟩ 1 1 [.int .i64 en.step, .int .i64 en.count, .string (str en.key)] rfl rfl (World.news_of_block (cs := #[.int .i64 en.step, .int .i64 en.count, .string (str en.key)]) (t := 119) (fr := (0, 0)) (heap_alloc_new _ _)) (by simp [Value.oneCell']) (by omega) (by unfold maxLen; omega) (by omega) (by simp; omega) (wr.heap.size + 1) (by simp) ?_); intro g2 cap2 w3 hown2 hgrow hat hlt2))
            go_roundg (2000 - (j + 1))
            case measure => omega
            case rel =>
              refine ⟨j + 1, _, _, _, m ++ [en], rfl, by simp, by omega, by omega, by rw [HT2.out], by simp; omega, ?_, ?_⟩
              · rw [ents_push, List.length_append]; exact hown2
              · exact grown_below (HB.out.alloc hsz _) (hown.alloc _) hgrow
          · have habI : ¬ ((l.filter (beforeL en)).length : Int) < (n : Int) := by omega
            have HT2 : Hid ((l.take (j + 1)).filter (fun a => decide ((l.filter (beforeL a)).length < n)) = m) := by
              show _ = _
              rw [HT.out, if_neg (by rw [decide_eq_false hab]; decide), List.append_nil]
            clear HT hown
            generalize (l.filter (beforeL en)).length = fl at *
            go_wp2
            go_roundg (2000 - (j + 1))
            case measure => omega
            case rel => exact ⟨j + 1, _, _, _, m, rfl, by simp, by omega, by omega, by rw [HT2.out], by omega, HO.out, HB.out⟩
    · obtain rfl : j = l.length := by omega
      go_wp2; go_ret; have e := HM.out
      rw [List.take_length, ← HG.out] at e
      rw [← e]; exact ⟨⟨_, rfl, HO.out⟩, HB.out⟩
end Go.Proofs.YtabpkohcimiceabGreat
