import Derived.Test.YtabpkohcimiceabGreatOpenX
namespace Go.Proofs.YtabpkohcimiceabGreat
set_option maxRecDepth 100000
set_option maxHeartbeats 1000000
open Go.RowKit
set_option linter.unusedVariables false
def openR (d : List UInt8) : Int := if (repairR d).2 = 0 then (if (repairR d).1 = d then (if d = List.replicate d.length 0 then 10 else 0) else 11) else (repairR d).2
theorem zero_take (d : List UInt8) (hl : 32 ≤ d.length) (h : d = List.replicate d.length 0) : d.take 32 = List.replicate 32 0 := by
  rw [h, List.take_replicate, Nat.min_eq_left (by omega)]
theorem disk_len {d : List UInt8} (h : isDiskL d = true) : 32 ≤ d.length ∧ d.length ≤ 1280 ∧ d.length % 32 = 0 := by
  rw [isDiskL, decide_eq_true_eq] at h; omega
theorem open_eq (d : List UInt8) : openErr d = openR d := by
  rw [openErr, openR]
  by_cases hD : isDiskL d = true
  · obtain ⟨z1, z2⟩ := sort_zero d hD; have hl := (disk_len hD).1; rw [if_pos hD]
    by_cases h0 : sortL d = 0
    · rw [z1 h0, h0]; rfl
    · rw [z2 h0]
      simp only [if_true]
      rw [sortL, repL] at *
      by_cases hz : d = List.replicate d.length 0
      · have ht := zero_take d hl hz
        rw [if_pos hz, if_pos ht, if_pos hz.symm, if_pos hz]; rfl
      · rw [if_neg hz, if_neg hz]
        by_cases ht : d.take 32 = List.replicate 32 0
        · have hz' : ¬ List.replicate d.length 0 = d := fun e => hz e.symm
          simp only [if_pos ht, if_neg hz']; rfl
        · rw [if_neg ht, if_neg ht]
          by_cases ho : heldOk d
          · rw [if_pos ho, if_pos ho]
            by_cases hp : d = packL (heldS d) (liveL d) d.length
            · rw [if_pos hp, if_pos hp.symm]; rfl
            · have hp' : ¬ packL (heldS d) (liveL d) d.length = d := fun e => hp e.symm
              simp only [if_neg hp, if_neg hp']; rfl
          · rw [if_neg ho]
            exfalso
            apply h0
            rw [if_neg hz, if_neg ht, if_neg ho]
  · rw [if_neg hD, repairR, if_neg hD]; rfl
structure GoodD (d : List UInt8) (k : Nat) : Prop where
  disk : isDiskL d = true
  len : d.length = k * 32
  k1 : 1 ≤ k
  k2 : k ≤ 40
  held : heldOk d
  pack : d = packL (heldS d) (liveL d) (k * 32)
  ok : StOk (heldS d)
  kept : (heldS d).kept.length ≤ (heldS d).cap
  cap : (heldS d).cap ≤ 30
  live : liveL d ≤ 1
  need : 1 + 2 * halfN (heldS d).cap ≤ k
  law : lawfulL (heldS d) = true
theorem open_good (d : List UInt8) (h : openErr d = 0) : ∃ k, GoodD d k := by
  rw [openErr] at h
  by_cases hD : isDiskL d = true
  · rw [if_pos hD] at h
    obtain ⟨h1, h2, h3⟩ := disk_len hD
    by_cases hs : sortL d = 3
    · rw [sortL] at hs
      by_cases hz : d = List.replicate d.length 0
      · rw [if_pos hz] at hs; omega
      · rw [if_neg hz] at hs
        by_cases ht : d.take 32 = List.replicate 32 0
        · rw [if_pos ht] at hs; omega
        · rw [if_neg ht] at hs
          by_cases ho : heldOk d
          · rw [if_pos ho] at hs
            by_cases hp : d = packL (heldS d) (liveL d) d.length
            · have hlen : d.length = d.length / 32 * 32 := by omega
              obtain ⟨o1, o2, o3⟩ := heldS_ok d ho
              refine ⟨d.length / 32, hD, hlen, by omega, by omega, ho, by rw [← hlen]; exact hp, o1, o2, by rw [o3]; exact ho.1.2.1, ho.1.2.2.1, ?_, ho.2.2.2.1⟩
              rw [o3]; have := ho.1.2.2.2.2; omega
            · rw [if_neg hp] at hs; omega
          · rw [if_neg ho] at hs; omega
    · rw [if_neg hs] at h
      split at h
      · omega
      · split at h <;> omega
  · rw [if_neg hD] at h; omega
theorem good_lawQ {d : List UInt8} {k : Nat} (h : GoodD d k) : LawQ (heldS d) ∧ Keyed (heldS d) := ⟨((law_iff _).1 h.law).1, h.ok.keyed⟩
theorem open_pos (d : List UInt8) : 0 ≤ openErr d ∧ openErr d ≤ 12 := by
  rw [openErr]; repeat' split
  all_goals omega
def OpenRef (d : List UInt8) (base : Nat) (w' : World) (e : Ending) : Prop :=
  (openErr d = 0 ∧ ∃ (a : Option Addr) (n c : Nat), e = .returned (.tuple #[.agg (stCells (heldS d) (.slice a n c)), .int .i64 (liveL d : Int), .int .i64 0]) ∧ w'.ownsRow base 119 3 (.slice a n c) (heldS d).kept.length (entsCells (heldS d).kept)) ∨
  (openErr d ≠ 0 ∧ e = .returned (.tuple #[.agg zeroCells13, .int .i64 0, .int .i64 (openErr d)]))
theorem refOpen_err (d : ByteArray) (w : World) (hd : d.size ≤ maxLen) (h : (repairR d.data.toList).2 ≠ 0) :
    Calls Tryz.prog 33 #[.string d] w fun e w' => e = .returned (.tuple #[.agg zeroCells13, .int .i64 0, .int .i64 (repairR d.data.toList).2]) ∧ Below w.heap.size w w' := by
  have c1 := fun w => repair_any d w hd
  have hI : ((repairR d.data.toList).2 == 0) = false := by rw [beq_eq_false_iff_ne]; exact h
  generalize (repairR d.data.toList).2 = er at *
  generalize str (repairR d.data.toList).1 = rp at *
  go_enter Tryz.func33, Tryz.ntmps33
  go_upto_region 4 with (first | (go_at_call 63; with_reducible refine (c1 _).mono ?_; rintro e w1 ⟨rfl, hb1⟩))
  obtain ⟨hA, hB, hb⟩ := two_blocks w w1 hb1; have HB := hid hb
  have fA : ∀ j, w1.frozen? ⟨w.heap.size, j, none⟩ = false := fun j => frozen_of_row w1 _ j _ _ hA
  obtain ⟨a0, a1, a2, a3, a4, a5, a6, a7, a8, a9, a10, a11, a12⟩ := cells13 hA; obtain ⟨b0, b1, b2, b3, b4, b5, b6, b7, b8, b9, b10, b11, b12⟩ := cells13 hB; clear hA hB hb hb1; go_wp2
  (try simp only [Exit.inBlock, Exit.then])
  refine bodyPost_ret (v := .tuple #[.agg zeroCells13, .int .i64 0, .int .i64 er]) ?_ ?_ ?_
  · rw [results_cell_tmp2 (fn := Tryz.f33) rfl]; simp [go_sem, zeroCells13, a0, a1, a2, a3, a4, a5, a6, a7, a8, a9, a10, a11, a12]
  · rfl
  · refine ⟨rfl, ?_⟩
    repeat (with_reducible refine Below.setCell ?_ (by exact Nat.le_refl _) _)
    exact HB.out
theorem refOpen_torn (d : ByteArray) (w : World) (hd : d.size ≤ maxLen) (h0 : (repairR d.data.toList).2 = 0) (h : (repairR d.data.toList).1 ≠ d.data.toList) :
    Calls Tryz.prog 33 #[.string d] w fun e w' => e = .returned (.tuple #[.agg zeroCells13, .int .i64 0, .int .i64 11]) ∧ Below w.heap.size w w' := by
  have c1 := fun w => repair_any d w hd
  rw [h0] at c1
  have hq : ((str (repairR d.data.toList).1).toList == d.toList) = false := by
    rw [ByteArray.toList_eq, ByteArray.toList_eq, str_toList, beq_eq_false_iff_ne]; exact h
  generalize str (repairR d.data.toList).1 = rp at *
  clear h h0
  go_enter Tryz.func33, Tryz.ntmps33
  go_upto_region 6 with (first | (go_at_call 63; with_reducible refine (c1 _).mono ?_; rintro e w1 ⟨rfl, hb1⟩))
  obtain ⟨hA, hB, hb⟩ := two_blocks w w1 hb1; have HB := hid hb
  have fA : ∀ j, w1.frozen? ⟨w.heap.size, j, none⟩ = false := fun j => frozen_of_row w1 _ j _ _ hA
  obtain ⟨a0, a1, a2, a3, a4, a5, a6, a7, a8, a9, a10, a11, a12⟩ := cells13 hA; obtain ⟨b0, b1, b2, b3, b4, b5, b6, b7, b8, b9, b10, b11, b12⟩ := cells13 hB; clear hA hB hb hb1; go_wp2
  (try simp only [Exit.inBlock, Exit.then])
  refine bodyPost_ret (v := .tuple #[.agg zeroCells13, .int .i64 0, .int .i64 11]) ?_ ?_ ?_
  · rw [results_cell_tmp2 (fn := Tryz.f33) rfl]; simp [go_sem, zeroCells13, a0, a1, a2, a3, a4, a5, a6, a7, a8, a9, a10, a11, a12]
  · rfl
  · refine ⟨rfl, ?_⟩
    repeat (with_reducible refine Below.setCell ?_ (by exact Nat.le_refl _) _)
    exact HB.out
theorem refOpen_blank (d : ByteArray) (w : World) (hd : d.size ≤ maxLen) (h0 : (repairR d.data.toList).2 = 0) (h : (repairR d.data.toList).1 = d.data.toList) (hz : d.data.toList = List.replicate d.data.toList.length 0) :
    Calls Tryz.prog 33 #[.string d] w fun e w' => e = .returned (.tuple #[.agg zeroCells13, .int .i64 0, .int .i64 10]) ∧ Below w.heap.size w w' := by
  have c1 := fun w => repair_any d w hd
  rw [h0, h] at c1
  have hdl := len_list d
  rw [str_of] at c1
  have hD : isDiskL d.data.toList = true := by
    cases hD : isDiskL d.data.toList with
    | true => rfl
    | false => rw [repairR, if_neg (by rw [hD]; simp)] at h0; simp at h0
  obtain ⟨k, hk1, hk2, hk3⟩ := disk_factsD hD
  have c4 := fun w => zeros_any ((k : Int) * 32) w (by omega) (by omega)
  rw [show ((k : Int) * 32).toNat = k * 32 by omega] at c4
  have hbq := str_beq2 d (List.replicate (k * 32) 0)
  rw [hdl, hk1] at hz
  rw [decide_eq_true hz] at hbq
  generalize str (List.replicate (k * 32) (0 : UInt8)) = zz at *
  clear h h0 hz hD
  go_enter Tryz.func33, Tryz.ntmps33
  go_upto_region 9 with (first | (go_at_call 63; with_reducible refine (c1 _).mono ?_; rintro e w1 ⟨rfl, hb1⟩) | (go_at_call 19; with_reducible refine (c4 _).mono ?_; rintro e w' ⟨rfl, hw⟩; rw [hw]; clear hw w'))
  obtain ⟨hA, hB, hb⟩ := two_blocks w w1 hb1; have HB := hid hb
  have fA : ∀ j, w1.frozen? ⟨w.heap.size, j, none⟩ = false := fun j => frozen_of_row w1 _ j _ _ hA
  obtain ⟨a0, a1, a2, a3, a4, a5, a6, a7, a8, a9, a10, a11, a12⟩ := cells13 hA; obtain ⟨b0, b1, b2, b3, b4, b5, b6, b7, b8, b9, b10, b11, b12⟩ := cells13 hB; clear hA hB hb hb1; go_wp2
  (try simp only [Exit.inBlock, Exit.then])
  refine bodyPost_ret (v := .tuple #[.agg zeroCells13, .int .i64 0, .int .i64 10]) ?_ ?_ ?_
  · rw [results_cell_tmp2 (fn := Tryz.f33) rfl]; simp [go_sem, zeroCells13, a0, a1, a2, a3, a4, a5, a6, a7, a8, a9, a10, a11, a12]
  · rfl
  · refine ⟨rfl, ?_⟩
    repeat (with_reducible refine Below.setCell ?_ (by exact Nat.le_refl _) _)
    exact HB.out
theorem refOpen_good (d : ByteArray) (w : World) (hd : d.size ≤ maxLen) (h0 : (repairR d.data.toList).2 = 0) (h : (repairR d.data.toList).1 = d.data.toList) (hz : ¬ d.data.toList = List.replicate d.data.toList.length 0) (hok : heldOk d.data.toList) :
    Calls Tryz.prog 33 #[.string d] w fun e w' => (∃ (a : Option Addr) (n c : Nat), e = .returned (.tuple #[.agg (stCells (heldS d.data.toList) (.slice a n c)), .int .i64 (liveL d.data.toList : Int), .int .i64 0]) ∧ w'.ownsRow w.heap.size 119 3 (.slice a n c) (heldS d.data.toList).kept.length (entsCells (heldS d.data.toList).kept)) ∧ Below w.heap.size w w' := by
  have c1 := fun w => repair_any d w hd
  rw [h0, h] at c1
  have hdl := len_list d
  rw [str_of] at c1
  have hD : isDiskL d.data.toList = true := by
    cases hD : isDiskL d.data.toList with
    | true => rfl
    | false => rw [repairR, if_neg (by rw [hD]; simp)] at h0; simp at h0
  obtain ⟨k, hk1, hk2, hk3⟩ := disk_factsD hD
  have c4 := fun w => zeros_any ((k : Int) * 32) w (by omega) (by omega)
  rw [show ((k : Int) * 32).toNat = k * 32 by omega] at c4
  have hbq := str_beq2 d (List.replicate (k * 32) 0)
  rw [hdl, hk1] at hz
  rw [decide_eq_false hz] at hbq
  have c5 : ∀ w, Calls Tryz.prog 75 #[.string d] w fun e w' => (∃ aa nn cc, e = .returned (.tuple #[.agg (stCells (heldS d.data.toList) (.slice aa nn cc)), .int .i64 (liveL d.data.toList : Int), .bool true]) ∧ w'.ownsRow w.heap.size 119 3 (.slice aa nn cc) (heldS d.data.toList).kept.length (entsCells (heldS d.data.toList).kept)) ∧ Below w.heap.size w w' := by
    intro w
    refine (held_any d w (by omega) (by omega)).mono ?_
    rintro e w' ⟨q, hb⟩
    rcases q with ⟨_, v, he, hv⟩ | ⟨q, _⟩
    · obtain ⟨aa, nn, cc, hvv⟩ := owns_form hv; subst hvv; exact ⟨⟨aa, nn, cc, he, hv⟩, hb⟩
    · exact absurd hok q
  generalize str (List.replicate (k * 32) (0 : UInt8)) = zz at *
  unfold stCells at *
  generalize heldS d.data.toList = ss at *
  generalize liveL d.data.toList = lv at *
  clear h h0 hz hD hok
  go_enter Tryz.func33, Tryz.ntmps33
  go_upto_region 10 with (first | (go_at_call 63; with_reducible refine (c1 _).mono ?_; rintro e w1 ⟨rfl, hb1⟩) | (go_at_call 19; with_reducible refine (c4 _).mono ?_; rintro e w' ⟨rfl, hw⟩; rw [hw]; clear hw w'))
  obtain ⟨hA, hB, hb⟩ := two_blocks w w1 hb1; have HB := hid hb; have HA : Hid (w1.heap[w.heap.size]? = some (.cells zeroCells13 63)) := hA; have HB2 : Hid (w1.heap[w.heap.size + 1]? = some (.cells zeroCells13 63)) := hB
  have hlt1 : w.heap.size + 1 < w1.heap.size := by have := hb1.size; simp at this; omega
  clear hA hB hb hb1 c1 c4
  go_cut [9] (fun tt wx => tt = .int .i64 lv ∧ ∃ aa nn cc, HeldAt w wx ss (.slice aa nn cc))
  case first =>
    go_wp2_with (first | (go_at_call 75; refine (c5 _).mono ?_; rintro e w2 ⟨⟨aa, nn, cc, rfl, hown⟩, hb2⟩; have hA2 := (hb2.block w.heap.size (by omega)).trans HA.out; have hB2 := (hb2.block (w.heap.size + 1) hlt1).trans HB2.out; obtain ⟨g0, g1, g2, g3, g4, g5, g6, g7, g8, g9, g10, g11, g12⟩ := cells13 hB2; have fB : ∀ j, w2.frozen? ⟨w.heap.size + 1, j, none⟩ = false := fun j => frozen_of_row w2 _ j _ _ hB2; have HBB : Hid (Below w.heap.size w w2) := below_tr HB.out hb2; have HOWN := hid hown; have HA2 : Hid (w2.heap[w.heap.size]? = some (.cells zeroCells13 63)) := hA2; have hlt2 : w.heap.size + 1 < w2.heap.size := Nat.lt_of_lt_of_le hlt1 hb2.size; clear hA2 hB2 hb2 c5 hown))
    go_meet
    case rel =>
      refine ⟨rfl, aa, nn, cc, ?_, ?_, ?_, ?_, w1.heap.size, hlt1, ?_⟩
      · repeat (refine Below.setCell ?_ (by exact Nat.le_succ _) _)
        exact HBB.out
      · repeat (refine (heap_setCell_other _ _ _ _ (by show w.heap.size ≠ w.heap.size + 1; omega)).trans ?_)
        exact HA2.out
      · constructor <;> simp [go_sem, g0, g1, g2, g3, g4, g5, g6, g7, g8, g9, g10, g11, g12, hlt2]
      · refine EntsAt.of_own (base := w1.heap.size) (e := 119) ?_
        repeat (refine ownsRow_setCell_below ?_ (by exact hlt1) _)
        exact HOWN.out
      · repeat (refine ownsRow_setCell_below ?_ (by exact hlt1) _)
        exact HOWN.out
  case rest =>
    obtain ⟨rfl, aa, nn, cc, hH⟩ := hcut; obtain ⟨lt, k0, k1, k2, k3, k4, k5, k6, k7, k8, k9, k10, k11, k12⟩ := hH.st; have hA3 := hH.res; have HH : Hid (HeldAt w wc ss (.slice aa nn cc)) := hH; obtain ⟨a0, a1, a2, a3, a4, a5, a6, a7, a8, a9, a10, a11, a12⟩ := cells13 hA3
    have fA : ∀ j, wc.frozen? ⟨w.heap.size, j, none⟩ = false := fun j => frozen_of_row wc _ j _ _ hA3
    clear hA3 hH c5; go_wp2
    (try simp only [Exit.inBlock, Exit.then])
    refine bodyPost_ret (v := .tuple #[.agg #[.int .i64 ss.role, .int .i64 ss.step, .int .i64 ss.sent, .int .i64 ss.got, .int .i64 ss.prev, .int .i64 ss.skip, .int .i64 ss.cap, .string (str ss.root), .string (str ss.out), .string (str ss.inn), .int .i64 ss.secret, .int .i64 ss.peer, .slice aa nn cc], .int .i64 lv, .int .i64 0]) ?_ ?_ ?_
    · rw [results_cell_tmp2 (fn := Tryz.f33) rfl]; simp [go_sem, a0, a1, a2, a3, a4, a5, a6, a7, a8, a9, a10, a11, a12]
    · rfl
    · refine ⟨⟨aa, nn, cc, rfl, ?_⟩, ?_⟩
      · obtain ⟨base, hb1, hb2⟩ := HH.out.own
        refine ownsRow_base (base := base) ?_ (by omega)
        repeat (with_reducible refine ownsRow_setCell_below ?_ (by show w.heap.size < base; omega) _)
        exact hb2
      · repeat (with_reducible refine Below.setCell ?_ (by exact Nat.le_refl _) _)
        exact HH.out.below
theorem refOpen_any (d : ByteArray) (w : World) (hd : d.size ≤ maxLen) :
    Calls Tryz.prog 33 #[.string d] w fun e w' => OpenRef d.data.toList w.heap.size w' e ∧ Below w.heap.size w w' := by
  have hE := open_eq d.data.toList
  rw [openR] at hE
  by_cases h0 : (repairR d.data.toList).2 = 0
  · rw [if_pos h0] at hE
    by_cases h : (repairR d.data.toList).1 = d.data.toList
    · rw [if_pos h] at hE
      by_cases hz : d.data.toList = List.replicate d.data.toList.length 0
      · rw [if_pos hz] at hE
        refine (refOpen_blank d w hd h0 h hz).mono ?_
        rintro e w' ⟨he, hb⟩
        exact ⟨.inr ⟨by rw [hE]; omega, by rw [hE]; exact he⟩, hb⟩
      · rw [if_neg hz] at hE
        obtain ⟨k, hg⟩ := open_good _ hE
        refine (refOpen_good d w hd h0 h hz hg.held).mono ?_
        rintro e w' ⟨he, hb⟩
        exact ⟨.inl ⟨hE, he⟩, hb⟩
    · rw [if_neg h] at hE
      refine (refOpen_torn d w hd h0 h).mono ?_
      rintro e w' ⟨he, hb⟩
      exact ⟨.inr ⟨by rw [hE]; omega, by rw [hE]; exact he⟩, hb⟩
  · rw [if_neg h0] at hE
    refine (refOpen_err d w hd h0).mono ?_
    rintro e w' ⟨he, hb⟩
    exact ⟨.inr ⟨by rw [hE]; exact h0, by rw [hE]; exact he⟩, hb⟩
end Go.Proofs.YtabpkohcimiceabGreat
