import Derived.Test.YtabpkohcimiceabLink
namespace Go.Proofs.Ytabpkohcimiceab
set_option maxRecDepth 100000
set_option maxHeartbeats 1000000
open Go.RowKit
set_option linter.unusedVariables false
def rightL (l : LetM) : Prop := 1 ≤ l.step ∧ l.step ≤ 29 ∧ l.count ≤ 49 ∧ l.prev ≤ 50 ∧ Pub (l.pub : Int)
instance (l : LetM) : Decidable (rightL l) := inferInstanceAs (Decidable (_ ∧ _))
theorem lettersRight_any (l : LetM) (w : World) :
    Calls Try.prog 66 #[.agg #[.int .i64 l.step, .int .i64 l.count, .int .i64 l.prev, .int .i64 l.pub, .string (str l.head), .string (str l.body)]] w fun e w' => e = .returned (.bool (decide (rightL l))) ∧ Below w.heap.size w w' := by
  have c1 := fun w => devIsPublic_any (l.pub : Int) w
  by_cases h1 : l.step < 1
  · rw [decide_eq_false (fun q : rightL l => by have := q.1; omega)]
    have i1 : (l.step : Int) < 1 := by omega
    clear h1
    go_enter Try.func66, Try.ntmps66
    go_wp2_with (first | (go_at_call 87; (with_reducible refine (c1 _).mono ?_); rintro e w' ⟨rfl, hw⟩; rw [hw]; clear hw w'))
    go_ret; exact ⟨rfl, (Below.refl _ _).alloc (Nat.le_refl _) _⟩
  · have i1 : ¬ (l.step : Int) < 1 := by omega
    by_cases h2 : 30 ≤ l.step
    · rw [decide_eq_false (fun q : rightL l => by have := q.2.1; omega)]
      have i2 : (30 : Int) ≤ (l.step : Int) := by omega
      clear h1 h2
      go_enter Try.func66, Try.ntmps66
      go_wp2_with (first | (go_at_call 87; (with_reducible refine (c1 _).mono ?_); rintro e w' ⟨rfl, hw⟩; rw [hw]; clear hw w'))
      go_ret; exact ⟨rfl, (Below.refl _ _).alloc (Nat.le_refl _) _⟩
    · have i2 : ¬ (30 : Int) ≤ (l.step : Int) := by omega
      by_cases h3 : l.count < 50
      · have i3 : (l.count : Int) < 50 := by omega
        by_cases h4 : l.prev ≤ 50
        · have i4 : (l.prev : Int) ≤ 50 := by omega
          have hd : decide (rightL l) = decide (Pub (l.pub : Int)) := by
            by_cases hp : Pub (l.pub : Int)
            · rw [decide_eq_true hp, decide_eq_true (show rightL l from ⟨by omega, by omega, by omega, h4, hp⟩)]
            · rw [decide_eq_false hp, decide_eq_false (fun q : rightL l => hp q.2.2.2.2)]
          rw [hd]; clear h1 h2 h3 h4 hd
          generalize decide (Pub (l.pub : Int)) = bp at *
          go_enter Try.func66, Try.ntmps66
          go_wp2_with (first | (go_at_call 87; (with_reducible refine (c1 _).mono ?_); rintro e w' ⟨rfl, hw⟩; rw [hw]; clear hw w'))
          go_ret; exact ⟨rfl, (Below.refl _ _).alloc (Nat.le_refl _) _⟩
        · rw [decide_eq_false (fun q : rightL l => by have := q.2.2.2.1; omega)]
          have i4 : ¬ (l.prev : Int) ≤ 50 := by omega
          clear h1 h2 h3 h4
          go_enter Try.func66, Try.ntmps66
          go_wp2_with (first | (go_at_call 87; (with_reducible refine (c1 _).mono ?_); rintro e w' ⟨rfl, hw⟩; rw [hw]; clear hw w'))
          go_ret; exact ⟨rfl, (Below.refl _ _).alloc (Nat.le_refl _) _⟩
      · rw [decide_eq_false (fun q : rightL l => by have := q.2.2.1; omega)]
        have i3 : ¬ (l.count : Int) < 50 := by omega
        clear h1 h2 h3
        go_enter Try.func66, Try.ntmps66
        go_wp2_with (first | (go_at_call 87; (with_reducible refine (c1 _).mono ?_); rintro e w' ⟨rfl, hw⟩; rw [hw]; clear hw w'))
        go_ret; exact ⟨rfl, (Below.refl _ _).alloc (Nat.le_refl _) _⟩
theorem lettersRead_no (t : ByteArray) (w : World) (ht : t.size ≤ maxLen) (h : ¬ (15 ≤ t.size ∧ t.size ≤ 55)) :
    Calls Try.prog 43 #[.string t] w fun e w' => e = .returned (.tuple #[.agg #[.int .i64 0, .int .i64 0, .int .i64 0, .int .i64 0, .string ⟨#[]⟩, .string ⟨#[]⟩], .bool false]) ∧ Below w.heap.size w w' := by
  unfold maxLen at ht
  by_cases h1 : (t.size : Int) - 7 < 8
  · clear h
    go_enter Try.func43, Try.ntmps43
    go_wp2
    (try simp only [Exit.inBlock, Exit.then])
    refine bodyPost_ret (v := .tuple #[.agg #[.int .i64 0, .int .i64 0, .int .i64 0, .int .i64 0, .string ⟨#[]⟩, .string ⟨#[]⟩], .bool false]) ?_ ?_ ?_
    · rw [results_cell_tmp (fn := Try.f43) rfl]; simp [go_sem]
    · rfl
    · exact ⟨rfl, (Below.refl _ _).alloc (Nat.le_refl _) _⟩
  · have h2 : (48 : Int) < (t.size : Int) - 7 := by omega
    clear h
    go_enter Try.func43, Try.ntmps43
    go_wp2
    (try simp only [Exit.inBlock, Exit.then])
    refine bodyPost_ret (v := .tuple #[.agg #[.int .i64 0, .int .i64 0, .int .i64 0, .int .i64 0, .string ⟨#[]⟩, .string ⟨#[]⟩], .bool false]) ?_ ?_ ?_
    · rw [results_cell_tmp (fn := Try.f43) rfl]; simp [go_sem]
    · rfl
    · exact ⟨rfl, (Below.refl _ _).alloc (Nat.le_refl _) _⟩
theorem lettersRead_yes (t : ByteArray) (w : World) (h1 : 15 ≤ t.size) (h2 : t.size ≤ 55) :
    Calls Try.prog 43 #[.string t] w fun e w' => e = .returned (.tuple #[.agg #[.int .i64 ((letOf t.data.toList).step : Int), .int .i64 ((letOf t.data.toList).count : Int), .int .i64 ((letOf t.data.toList).prev : Int), .int .i64 ((letOf t.data.toList).pub : Int), .string (str (letOf t.data.toList).head), .string (str (letOf t.data.toList).body)], .bool (decide (rightL (letOf t.data.toList)))]) ∧ Below w.heap.size w w' := by
  have htl := len_list t
  have hm : t.size ≤ maxLen := by unfold maxLen; omega
  have i1 : ¬ (t.size : Int) - 7 < 8 := by omega
  have i2 : ¬ (48 : Int) < (t.size : Int) - 7 := by omega
  have b0 : ∀ w, Calls Try.prog 63 #[.string t, .int .i64 0] w fun e w' => e = .returned (.int .i64 ((letOf t.data.toList).step : Int)) ∧ w' = w := fun w => tbyte_any t 0 w hm (by omega)
  have b1 : ∀ w, Calls Try.prog 63 #[.string t, .int .i64 1] w fun e w' => e = .returned (.int .i64 ((letOf t.data.toList).count : Int)) ∧ w' = w := fun w => tbyte_any t 1 w hm (by omega)
  have b2 : ∀ w, Calls Try.prog 63 #[.string t, .int .i64 2] w fun e w' => e = .returned (.int .i64 ((letOf t.data.toList).prev : Int)) ∧ w' = w := fun w => tbyte_any t 2 w hm (by omega)
  have hN : u (wd (t.data.toList.drop 3)) = ((letOf t.data.toList).pub : Int) := by
    show u (wd (t.data.toList.drop 3)) = ((wn 4 (t.data.toList.drop 3) : Nat) : Int)
    unfold u; rw [wd_toNat]
  have b3 : ∀ w, Calls Try.prog 64 #[.string t, .int .i64 3] w fun e w' => e = .returned (.int .u32 ((letOf t.data.toList).pub : Int)) ∧ w' = w := fun w => by
    have := number_int t 3 w hm (by omega) (by omega)
    rw [show (3 : Int).toNat = 3 from rfl, hN] at this
    exact this
  have b4 : ∀ w, Calls Try.prog 65 #[.string t, .int .i64 0, .int .i64 7] w fun e w' => e = .returned (.string (str (letOf t.data.toList).head)) ∧ w' = w := fun w => by
    have := part_any t 0 7 w hm
    rw [partL, if_pos ⟨by omega, by omega, by omega, by omega⟩] at this
    exact this
  have b5 : ∀ w, Calls Try.prog 65 #[.string t, .int .i64 7, .int .i64 ((t.size : Int) - 7)] w fun e w' => e = .returned (.string (str (letOf t.data.toList).body)) ∧ w' = w := fun w => by
    have := part_any t 7 ((t.size : Int) - 7) w hm
    rw [partL, if_pos ⟨by omega, by omega, by omega, by omega⟩, List.take_of_length_le (by rw [List.length_drop]; omega)] at this
    exact this
  have hpl : ((letOf t.data.toList).pub : Int) < 4294967296 := by
    have := wn_lt 4 (t.data.toList.drop 3)
    show ((wn 4 (t.data.toList.drop 3) : Nat) : Int) < _
    omega
  have hp0 : (0 : Int) ≤ ((letOf t.data.toList).pub : Int) := by omega
  have c1 := fun w => lettersRight_any (letOf t.data.toList) w
  generalize letOf t.data.toList = l at *
  have tok1 : True := trivial; have tok2 : True := trivial; have tok3 : True := trivial; clear hN htl
  generalize decide (rightL l) = rb at *
  go_enter Try.func43, Try.ntmps43
  go_upto_region 5 with (first | (go_at_call 63; have _t := tok1; (with_reducible refine (b0 _).mono ?_); rintro e w' ⟨rfl, hw⟩; rw [hw]; clear hw w' tok1) | (go_at_call 63; have _t := tok2; (with_reducible refine (b1 _).mono ?_); rintro e w' ⟨rfl, hw⟩; rw [hw]; clear hw w' tok2) | (go_at_call 63; (with_reducible refine (b2 _).mono ?_); rintro e w' ⟨rfl, hw⟩; rw [hw]; clear hw w') | (go_at_call 64; (with_reducible refine (b3 _).mono ?_); rintro e w' ⟨rfl, hw⟩; rw [hw]; clear hw w') | (go_at_call 65; have _t := tok3; (with_reducible refine (b4 _).mono ?_); rintro e w' ⟨rfl, hw⟩; rw [hw]; clear hw w' tok3) | (go_at_call 65; (with_reducible refine (b5 _).mono ?_); rintro e w' ⟨rfl, hw⟩; rw [hw]; clear hw w'))
  have hR : ((w.alloc (.cells #[.int .i64 0, .int .i64 0, .int .i64 0, .int .i64 0, .string ⟨#[]⟩, .string ⟨#[]⟩] 96)).alloc (.cells #[.int .i64 l.step, .int .i64 l.count, .int .i64 l.prev, .int .i64 l.pub, .string (str l.head), .string (str l.body)] 96)).heap[w.heap.size]? = some (.cells #[.int .i64 0, .int .i64 0, .int .i64 0, .int .i64 0, .string ⟨#[]⟩, .string ⟨#[]⟩] 96) := (Below.heap_alloc _ _ _ (by simp)).trans (heap_alloc_new w _)
  have hX : ((w.alloc (.cells #[.int .i64 0, .int .i64 0, .int .i64 0, .int .i64 0, .string ⟨#[]⟩, .string ⟨#[]⟩] 96)).alloc (.cells #[.int .i64 l.step, .int .i64 l.count, .int .i64 l.prev, .int .i64 l.pub, .string (str l.head), .string (str l.body)] 96)).heap[w.heap.size + 1]? = some (.cells #[.int .i64 l.step, .int .i64 l.count, .int .i64 l.prev, .int .i64 l.pub, .string (str l.head), .string (str l.body)] 96) := by
    have := heap_alloc_new (w.alloc (.cells #[.int .i64 0, .int .i64 0, .int .i64 0, .int .i64 0, .string ⟨#[]⟩, .string ⟨#[]⟩] 96)) (.cells #[.int .i64 l.step, .int .i64 l.count, .int .i64 l.prev, .int .i64 l.pub, .string (str l.head), .string (str l.body)] 96)
    have e : (w.alloc (.cells #[.int .i64 0, .int .i64 0, .int .i64 0, .int .i64 0, .string ⟨#[]⟩, .string ⟨#[]⟩] 96)).heap.size = w.heap.size + 1 := by simp
    rw [e] at this
    exact this
  have hW : Below w.heap.size w ((w.alloc (.cells #[.int .i64 0, .int .i64 0, .int .i64 0, .int .i64 0, .string ⟨#[]⟩, .string ⟨#[]⟩] 96)).alloc (.cells #[.int .i64 l.step, .int .i64 l.count, .int .i64 l.prev, .int .i64 l.pub, .string (str l.head), .string (str l.body)] 96)) := ((Below.refl _ _).alloc (Nat.le_refl _) _).alloc (by simp) _
  have hlt : w.heap.size + 1 < ((w.alloc (.cells #[.int .i64 0, .int .i64 0, .int .i64 0, .int .i64 0, .string ⟨#[]⟩, .string ⟨#[]⟩] 96)).alloc (.cells #[.int .i64 l.step, .int .i64 l.count, .int .i64 l.prev, .int .i64 l.pub, .string (str l.head), .string (str l.body)] 96)).heap.size := by simp
  generalize ((w.alloc (.cells #[.int .i64 0, .int .i64 0, .int .i64 0, .int .i64 0, .string ⟨#[]⟩, .string ⟨#[]⟩] 96)).alloc (.cells #[.int .i64 l.step, .int .i64 l.count, .int .i64 l.prev, .int .i64 l.pub, .string (str l.head), .string (str l.body)] 96)) = wb at hR hX hW hlt ⊢
  obtain ⟨k0, k1, k2, k3, k4, k5⟩ := cells6 hX; obtain ⟨a0, a1, a2, a3, a4, a5⟩ := cells6 hR
  have fA : ∀ j, wb.frozen? ⟨w.heap.size, j, none⟩ = false := fun j => frozen_of_row wb _ j _ _ hR
  have HX := hid hX; have HR := hid hR; have HW := hid hW; clear hX hR hW b0 b1 b2 b3 b4 b5 i1 i2
  go_region_with (first | (go_at_call 66; (with_reducible refine (c1 _).mono ?_); rintro e w4 ⟨rfl, hb4⟩; have hb4' : Below wb.heap.size wb w4 := ⟨hb4.os, hb4.tape, hb4.output, hb4.size, hb4.block⟩; clear k0 k1 k2 k3 k4 k5 a0 a1 a2 a3 a4 a5 fA; have hX4 := (hb4'.block (w.heap.size + 1) hlt).trans HX.out; have hR4 := (hb4'.block w.heap.size (by omega)).trans HR.out; obtain ⟨k0, k1, k2, k3, k4, k5⟩ := cells6 hX4; obtain ⟨a0, a1, a2, a3, a4, a5⟩ := cells6 hR4; have fA : ∀ j, w4.frozen? ⟨w.heap.size, j, none⟩ = false := fun j => frozen_of_row w4 _ j _ _ hR4; have HW4 : Hid (Below w.heap.size w w4) := below_tr HW.out hb4'; clear hX4 hR4 hb4 hb4'))
  all_goals (go_wp2)
  all_goals (try simp only [Exit.inBlock, Exit.then])
  all_goals (refine bodyPost_ret (v := .tuple #[.agg #[.int .i64 l.step, .int .i64 l.count, .int .i64 l.prev, .int .i64 l.pub, .string (str l.head), .string (str l.body)], .bool rb]) ?_ ?_ ?_)
  all_goals first
    | (refine ⟨rfl, ?_⟩; (repeat (with_reducible refine Below.setCell ?_ (by exact Nat.le_refl _) _)); exact HW4.out)
    | rfl
    | (rw [results_cell_tmp (fn := Try.f43) rfl]; simp [go_sem, a0, a1, a2, a3, a4, a5])
theorem lettersRead_any (t : ByteArray) (w : World) (ht : t.size ≤ maxLen) :
    Calls Try.prog 43 #[.string t] w fun e w' => (∃ l : LetM, e = .returned (.tuple #[.agg #[.int .i64 l.step, .int .i64 l.count, .int .i64 l.prev, .int .i64 l.pub, .string (str l.head), .string (str l.body)], .bool (decide (letOk t.data.toList))]) ∧ (letOk t.data.toList → l = letOf t.data.toList)) ∧ Below w.heap.size w w' := by
  have htl := len_list t
  by_cases h : 15 ≤ t.size ∧ t.size ≤ 55
  · refine (lettersRead_yes t w h.1 h.2).mono ?_
    rintro e w' ⟨he, hb⟩
    have hd : decide (rightL (letOf t.data.toList)) = decide (letOk t.data.toList) := by
      by_cases q : rightL (letOf t.data.toList)
      · rw [decide_eq_true q, decide_eq_true (show letOk t.data.toList from ⟨by rw [htl]; exact h, q⟩)]
      · rw [decide_eq_false q, decide_eq_false (fun z : letOk t.data.toList => q z.2)]
    rw [hd] at he
    exact ⟨⟨letOf t.data.toList, he, fun _ => rfl⟩, hb⟩
  · refine (lettersRead_no t w ht h).mono ?_
    rintro e w' ⟨he, hb⟩
    have hd : ¬ letOk t.data.toList := fun q => h (by have := q.1; rw [htl] at this; exact this)
    rw [decide_eq_false hd]
    exact ⟨⟨{ step := 0, count := 0, prev := 0, pub := 0, head := [], body := [] }, he, fun q => absurd q hd⟩, hb⟩
end Go.Proofs.Ytabpkohcimiceab
