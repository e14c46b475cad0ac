import Derived.Test.YtabpkohcimiceabGreatHeldA
namespace Go.Proofs.YtabpkohcimiceabGreat
set_option maxRecDepth 100000
set_option maxHeartbeats 1000000
open Go.RowKit
set_option linter.unusedVariables false
theorem owns_form {w : World} {base n : Nat} {e : TypeId} {v : Value} {xs : List Value} (h : w.ownsRow base e 3 v n xs) : ∃ a m c, v = .slice a m c := by
  rcases h.2 with ⟨h1, _⟩ | ⟨g, cap, _, h1, _⟩
  · exact ⟨none, 0, 0, h1⟩
  · exact ⟨_, _, _, h1⟩
theorem ext_beq2 (d : ByteArray) (a b : Nat) (y : List UInt8) : ((str y).toList == (d.extract a b).toList) = decide (y = (d.extract a b).data.toList) := by
  rw [ByteArray.toList_eq, ByteArray.toList_eq, str_toList]
  by_cases h : y = (d.extract a b).data.toList
  · rw [decide_eq_true h, h]; simp
  · rw [decide_eq_false h, beq_eq_false_iff_ne]; exact h
def HeldOut (ss : StM) (good : Bool) (lv base : Nat) (w' : World) (e : Ending) : Prop :=
  (good = true ∧ ∃ v, e = .returned (.tuple #[.agg (stCells ss v), .int .i64 lv, .bool true]) ∧ w'.ownsRow base 119 3 v ss.kept.length (entsCells ss.kept)) ∨ (good = false ∧ HeldNo e)
structure HeldAt (w wx : World) (ss : StM) (v : Value) : Prop where
  below : Below w.heap.size w wx
  res : wx.heap[w.heap.size]? = some (.cells zeroCells13 63)
  st : StAt wx (w.heap.size + 1) ss v
  ents : EntsAt wx v ss.kept
  own : ∃ base, w.heap.size + 1 < base ∧ wx.ownsRow base 119 3 v ss.kept.length (entsCells ss.kept)
theorem HeldAt.next {w wx w' : World} {ss : StM} {v : Value} (h : HeldAt w wx ss v) (hb : Below wx.heap.size wx w') : HeldAt w w' ss v :=
  ⟨below_tr h.below hb, (hb.block _ (by have := h.st.lt; omega)).trans h.res, h.st.next hb, h.ents.next hb, h.own.imp fun base h => ⟨h.1, ownsRow_below h.2 hb⟩⟩
set_option maxHeartbeats 2000000 in
theorem held_seen (d : ByteArray) (w : World) (hd : 32 ≤ d.size) (hd2 : d.size ≤ 1280) (h4 : d[4].toNat ≤ 30) (h5 : d[5].toNat ≤ 1) (ht : d.data.toList.take 32 = topL d[4].toNat d[5].toNat) (hl : 32 + 2 * (halfN d[4].toNat * 32) ≤ d.size) (M : Nat) (hM : M = d[5].toNat * (halfN d[4].toNat * 32))
    (ss : StM) (hok : StOk ss) (c3 : ∀ w, Calls Tryz.prog 123 #[.string (d.extract (32 + M) (32 + M + halfN d[4].toNat * 32)), .int .i64 (d[4].toNat : Int)] w fun e w' => (∃ v, e = .returned (.tuple #[.agg (stCells ss v), .bool true]) ∧ w'.ownsRow w.heap.size 119 3 v ss.kept.length (entsCells ss.kept)) ∧ Below w.heap.size w w') :
    Calls Tryz.prog 75 #[.string d] w fun e w' => HeldOut ss (decide (lawfulL ss = true ∧ sideL ss = (d.extract (32 + M) (32 + M + halfN d[4].toNat * 32)).data.toList)) d[5].toNat w.heap.size w' e ∧ Below w.heap.size w w' := by
  generalize hG : decide (lawfulL ss = true ∧ sideL ss = (d.extract (32 + M) (32 + M + halfN d[4].toNat * 32)).data.toList) = good
  have HG : Hid (decide (lawfulL ss = true ∧ sideL ss = (d.extract (32 + M) (32 + M + halfN d[4].toNat * 32)).data.toList) = good) := hG; clear hG
  have n4 : 4 < d.size := by omega
  have n5 : 5 < d.size := by omega
  have s4 : (4 : Int) < (d.size : Int) := by omega
  have s5 : (5 : Int) < (d.size : Int) := by omega
  have s32 : ¬ (d.size : Int) < 32 := by omega
  have q4 : ¬ (30 : Int) < (d[4].toNat : Int) := by omega
  have q5 : ¬ (1 : Int) < (d[5].toNat : Int) := by omega
  have b4 := d[4].toNat_lt; have b5 := d[5].toNat_lt
  have c1 := fun w => half_any d[4].toNat w (by omega)
  have c2 := fun w => top_any d[4].toNat d[5].toNat w (by omega) (by omega)
  have hbq := ext_beq d 32 (topL d[4].toNat d[5].toNat); obtain ⟨hh1, hh2, hh3⟩ := halfN_le d[4].toNat h4
  rw [decide_eq_true ht] at hbq
  have hlI : ¬ (d.size : Int) < 32 + 2 * ((halfN d[4].toNat : Int) * 32) := by omega
  generalize str (topL d[4].toNat d[5].toNat) = tp at *
  have hMI : (d[5].toNat : Int) * ((halfN d[4].toNat : Int) * 32) = (M : Int) := by
    rw [hM]; simp
  have hM2 : 32 + M + halfN d[4].toNat * 32 ≤ d.size := by
    rw [hM]; have : d[5].toNat = 0 ∨ d[5].toNat = 1 := by omega
    rcases this with e | e <;> rw [e] <;> omega
  have wm : wrap64 ((d[5].toNat : Int) * ((halfN d[4].toNat : Int) * 32)) = (M : Int) := by
    rw [hMI]; unfold wrap64; omega
  clear ht hM hMI
  generalize halfN d[4].toNat = hf at *
  go_enter Tryz.func75, Tryz.ntmps75
  go_upto_region 8 with (first | (go_at_call 95; refine (c1 _).mono ?_; rintro e w' ⟨rfl, hw⟩; rw [hw]; clear hw w') | (go_at_call 122; refine (c2 _).mono ?_; rintro e w1 ⟨rfl, hb1⟩))
  obtain ⟨hA, hB, hb⟩ := two_blocks w w1 hb1; have HB := hid hb; have HA : Hid (w1.heap[w.heap.size]? = some (.cells zeroCells13 63)) := hA; have HB2 : Hid (w1.heap[w.heap.size + 1]? = some (.cells zeroCells13 63)) := hB
  have hlt1 : w.heap.size + 1 < w1.heap.size := by have := hb1.size; simp at this; omega
  clear hA hB hb hb1 c1 c2
  go_upto_region 11 with fail
  have c3' : ∀ w, Calls Tryz.prog 123 #[.string (d.extract (32 + M) (32 + M + hf * 32)), .int .i64 (d[4].toNat : Int)] w fun e w' => (∃ v, e = .returned (.tuple #[.agg #[.int .i64 ss.role, .int .i64 ss.step, .int .i64 ss.sent, .int .i64 ss.got, .int .i64 ss.prev, .int .i64 ss.skip, .int .i64 ss.cap, .string (str ss.root), .string (str ss.out), .string (str ss.inn), .int .i64 ss.secret, .int .i64 ss.peer, v], .bool true]) ∧ w'.ownsRow w.heap.size 119 3 v ss.kept.length (entsCells ss.kept)) ∧ Below w.heap.size w w' := c3
  clear c3
  go_cut [11] (fun tt wx => tt = .bool true ∧ ∃ aa nn cc, HeldAt w wx ss (.slice aa nn cc))
  case first =>
    go_wp2_with (first | (go_at_call 123; refine (c3' _).mono ?_; rintro e w2 ⟨⟨v, rfl, hown⟩, hb2⟩; obtain ⟨aa, nn, cc, hv⟩ := owns_form hown; subst hv; have hA2 := (hb2.block w.heap.size (by omega)).trans HA.out; have hB2 := (hb2.block (w.heap.size + 1) hlt1).trans HB2.out; obtain ⟨g0, g1, g2, g3, g4, g5, g6, g7, g8, g9, g10, g11, g12⟩ := cells13 hB2; have fB : ∀ j, w2.frozen? ⟨w.heap.size + 1, j, none⟩ = false := fun j => frozen_of_row w2 _ j _ _ hB2; have HBB : Hid (Below w.heap.size w w2) := below_tr HB.out hb2; have HOWN := hid hown; have HA2 : Hid (w2.heap[w.heap.size]? = some (.cells zeroCells13 63)) := hA2; have hlt2 : w.heap.size + 1 < w2.heap.size := Nat.lt_of_lt_of_le hlt1 hb2.size; clear hA2 hB2 hb2 c3' hown))
    go_meet
    case rel =>
      refine ⟨rfl, aa, nn, cc, ?_, ?_, ?_, ?_, w1.heap.size, hlt1, ?_⟩
      · repeat (refine Below.setCell ?_ (by exact Nat.le_succ _) _)
        exact HBB.out
      · repeat (refine (heap_setCell_other _ _ _ _ (by show w.heap.size ≠ w.heap.size + 1; omega)).trans ?_)
        exact HA2.out
      · constructor <;> simp [go_sem, g0, g1, g2, g3, g4, g5, g6, g7, g8, g9, g10, g11, g12, hlt2]
      · refine EntsAt.of_own (base := w1.heap.size) (e := 119) ?_
        repeat (refine ownsRow_setCell_below ?_ (by exact hlt1) _)
        exact HOWN.out
      · repeat (refine ownsRow_setCell_below ?_ (by exact hlt1) _)
        exact HOWN.out
  case rest =>
    obtain ⟨rfl, aa, nn, cc, hH⟩ := hcut
    have c5 := fun w h => lawful_any ss (.slice aa nn cc) w hok h (fun w h => keys_any ss (.slice aa nn cc) w hok h)
    have c6 := fun w h => side_any ss (.slice aa nn cc) w hok h
    obtain ⟨lt, k0, k1, k2, k3, k4, k5, k6, k7, k8, k9, k10, k11, k12⟩ := hH.st
    by_cases hlaw : lawfulL ss = true
    · rw [hlaw] at c5
      have hsd := ext_beq2 d (32 + M) (32 + M + hf * 32) (sideL ss)
      go_upto_region 17 with (first | (go_at_call 124; refine (c5 _ hH.ents).mono ?_; rintro e w3 ⟨rfl, hb3⟩; have hH3 := hH.next hb3; clear k0 k1 k2 k3 k4 k5 k6 k7 k8 k9 k10 k11 k12; obtain ⟨lt3, k0, k1, k2, k3, k4, k5, k6, k7, k8, k9, k10, k11, k12⟩ := hH3.st; have hA3 := hH3.res; clear hb3 hA3))
      go_upto_region 18 with (first | (go_at_call 125; refine (c6 _ hH3.ents).mono ?_; rintro e w4 ⟨rfl, hb4⟩))
      have hH4 := hH3.next hb4; clear k0 k1 k2 k3 k4 k5 k6 k7 k8 k9 k10 k11 k12; obtain ⟨lt4, k0, k1, k2, k3, k4, k5, k6, k7, k8, k9, k10, k11, k12⟩ := hH4.st; have hA3 := hH4.res; have HH : Hid (HeldAt w w4 ss (.slice aa nn cc)) := hH4; obtain ⟨a0, a1, a2, a3, a4, a5, a6, a7, a8, a9, a10, a11, a12⟩ := cells13 hA3
      have fA : ∀ j, w4.frozen? ⟨w.heap.size, j, none⟩ = false := fun j => frozen_of_row w4 _ j _ _ hA3
      clear hA3 hb4 hH4 hH3 hH c5 c6 lt lt3
      generalize str (sideL ss) = sd at *
      have HGG : Hid (good = decide (sideL ss = (d.extract (32 + M) (32 + M + hf * 32)).data.toList)) := by
        show good = _
        rw [← HG.out]
        by_cases hq : sideL ss = (d.extract (32 + M) (32 + M + hf * 32)).data.toList
        · rw [decide_eq_true ⟨hlaw, hq⟩, decide_eq_true hq]
        · rw [decide_eq_false (fun h => hq h.2), decide_eq_false hq]
      have HSD : Hid ((sd.toList == (d.extract (32 + M) (32 + M + hf * 32)).toList) = decide (sideL ss = (d.extract (32 + M) (32 + M + hf * 32)).data.toList)) := hsd
      generalize decide (sideL ss = (d.extract (32 + M) (32 + M + hf * 32)).data.toList) = gg at *
      clear HG
      go_region
      go_wp2
      (try simp only [Exit.inBlock, Exit.then])
      refine bodyPost_ret (v := .tuple #[.agg (stCells ss (.slice aa nn cc)), .int .i64 (d[5].toNat : Int), .bool gg]) ?_ ?_ ?_
      · rw [results_cell_tmp2 (fn := Tryz.f75) rfl]; simp [go_sem, stCells, a0, a1, a2, a3, a4, a5, a6, a7, a8, a9, a10, a11, a12]
      · rfl
      · refine ⟨?_, ?_⟩
        · cases hgg : gg with
          | true =>
            refine .inl ⟨by rw [HGG.out, hgg], .slice aa nn cc, rfl, ?_⟩
            obtain ⟨base, hb1, hb2⟩ := HH.out.own
            refine ownsRow_base (base := base) ?_ (by omega)
            repeat (first | (with_reducible refine ownsRow_setCell_below ?_ (by show w.heap.size < base; omega) _) | (with_reducible refine ownsRow_drew ?_))
            exact hb2
          | false => exact .inr ⟨by rw [HGG.out, hgg], _, _, _, _, _, rfl⟩
        · repeat (first | (with_reducible refine Below.setCell ?_ (by exact Nat.le_refl _) _) | (with_reducible refine Below.drew ?_))
          exact HH.out.below
    · have hlaw' : lawfulL ss = false := by cases h : lawfulL ss with | true => exact absurd h hlaw | false => rfl
      rw [hlaw'] at c5
      go_upto_region 16 with (first | (go_at_call 124; refine (c5 _ hH.ents).mono ?_; rintro e w3 ⟨rfl, hb3⟩; have hH3 := hH.next hb3; clear k0 k1 k2 k3 k4 k5 k6 k7 k8 k9 k10 k11 k12; obtain ⟨lt3, k0, k1, k2, k3, k4, k5, k6, k7, k8, k9, k10, k11, k12⟩ := hH3.st; have hA3 := hH3.res; obtain ⟨a0, a1, a2, a3, a4, a5, a6, a7, a8, a9, a10, a11, a12⟩ := cells13 hA3; have fA : ∀ j, w3.frozen? ⟨w.heap.size, j, none⟩ = false := fun j => frozen_of_row w3 _ j _ _ hA3; clear hb3 hA3))
      have HH : Hid (HeldAt w w3 ss (.slice aa nn cc)) := hH3; clear hH3 hH c5 c6 lt lt3; go_wp2
      (try simp only [Exit.inBlock, Exit.then])
      refine bodyPost_ret (v := .tuple #[.agg (stCells ss (.slice aa nn cc)), .int .i64 0, .bool false]) ?_ ?_ ?_
      · rw [results_cell_tmp2 (fn := Tryz.f75) rfl]; simp [go_sem, stCells, a0, a1, a2, a3, a4, a5, a6, a7, a8, a9, a10, a11, a12]
      · rfl
      · refine ⟨.inr ⟨?_, _, _, _, _, _, rfl⟩, ?_⟩
        · rw [← HG.out]; exact decide_eq_false (fun h => hlaw h.1)
        repeat (refine Below.setCell ?_ (by exact Nat.le_refl _) _)
        exact HH.out.below
end Go.Proofs.YtabpkohcimiceabGreat
namespace Go.Proofs.YtabpkohcimiceabGreat
set_option maxRecDepth 100000
set_option maxHeartbeats 1000000
open Go.RowKit
set_option linter.unusedVariables false
def HeldAll (d : List UInt8) (base : Nat) (w' : World) (e : Ending) : Prop :=
  (heldOk d ∧ ∃ v, e = .returned (.tuple #[.agg (stCells (heldS d) v), .int .i64 (liveL d : Int), .bool true]) ∧ w'.ownsRow base 119 3 v (heldS d).kept.length (entsCells (heldS d).kept)) ∨ (¬ heldOk d ∧ HeldNo e)
theorem held_any (d : ByteArray) (w : World) (hd : 32 ≤ d.size) (hd2 : d.size ≤ 1280) :
    Calls Tryz.prog 75 #[.string d] w fun e w' => HeldAll d.data.toList w.heap.size w' e ∧ Below w.heap.size w w' := by
  have g4 := getD_at d 4 (by omega)
  have g5 := getD_at d 5 (by omega)
  have hdl := len_list d
  by_cases h45 : d[4].toNat ≤ 30 ∧ d[5].toNat ≤ 1
  · obtain ⟨h4, h5⟩ := h45
    by_cases ht : d.data.toList.take 32 = topL d[4].toNat d[5].toNat
    · by_cases hl : 32 + 2 * (halfN d[4].toNat * 32) ≤ d.size
      · obtain ⟨hh1, hh2, hh3⟩ := halfN_le d[4].toNat h4
        have hM : d[5].toNat * (halfN d[4].toNat * 32) + 32 + halfN d[4].toNat * 32 ≤ d.size := by
          have : d[5].toNat = 0 ∨ d[5].toNat = 1 := by omega
          rcases this with e | e <;> rw [e] <;> omega
        have hhead : headOk d.data.toList := by
          refine ⟨by omega, by rw [g4]; exact h4, by rw [g5]; exact h5, by rw [g4, g5]; exact ht, by rw [g4, hdl]; exact hl⟩
        have hside : sideOf d.data.toList = (d.extract (32 + d[5].toNat * (halfN d[4].toNat * 32)) (32 + d[5].toNat * (halfN d[4].toNat * 32) + halfN d[4].toNat * 32)).data.toList := by
          rw [sideOf, fromL, g4, g5, ext_sub, str_toList]
          congr 1; omega
        obtain ⟨t, htt⟩ : ∃ t, t = d.extract (32 + d[5].toNat * (halfN d[4].toNat * 32)) (32 + d[5].toNat * (halfN d[4].toNat * 32) + halfN d[4].toNat * 32) := ⟨_, rfl⟩
        have htz : t.size = halfN d[4].toNat * 32 := by rw [htt, ByteArray.size_extract]; omega
        rw [← htt] at hside
        have k6 := getD_at t 6 (by omega)
        have k7 := getD_at t 7 (by omega)
        have htl := len_list t
        by_cases h67 : t[6].toNat = d[4].toNat ∧ t[7].toNat ≤ d[4].toNat
        · have hok := seen_ok t.data.toList d[4].toNat (by omega) h4 (by rw [k7]; exact h67.2)
          have hs := held_seen d w hd hd2 h4 h5 ht hl _ rfl (seenS t.data.toList d[4].toNat) hok (by
            intro w
            rw [← htt]
            exact seen_any t d[4].toNat w (by omega) (by omega) (by omega) h4 h67.1 h67.2)
          refine hs.mono ?_
          rintro e w' ⟨h, hb⟩
          refine ⟨?_, hb⟩
          rw [← htt] at h
          have hS : heldS d.data.toList = seenS t.data.toList d[4].toNat := by rw [heldS, g4, hside]
          have hLv : liveL d.data.toList = d[5].toNat := by rw [liveL, g5]
          have hiff : heldOk d.data.toList ↔ (lawfulL (seenS t.data.toList d[4].toNat) = true ∧ sideL (seenS t.data.toList d[4].toNat) = t.data.toList) := by
            constructor
            · rintro ⟨_, h1, h2, h3, h5⟩
              rw [hside, g4] at h3 h5
              exact ⟨h3, h5⟩
            · rintro ⟨h3, h5⟩
              refine ⟨hhead, ?_⟩
              rw [hside, g4]
              exact ⟨by rw [k6]; exact h67.1, by rw [k7]; exact h67.2, h3, h5⟩
          rcases h with ⟨h1, h2⟩ | ⟨h1, h2⟩
          · refine .inl ⟨hiff.2 (of_decide_eq_true h1), ?_⟩
            rw [hS, hLv]; exact h2
          · exact .inr ⟨fun h => of_decide_eq_false h1 (hiff.1 h), h2⟩
        · have hs := held_unseen d w hd hd2 h4 h5 ht hl _ rfl (by
            intro w
            rw [← htt]
            exact seen_no t d[4].toNat w (by omega) (by omega) h4 h67)
          refine hs.mono ?_
          rintro e w' ⟨h, hb⟩
          refine ⟨.inr ⟨?_, h⟩, hb⟩
          rintro ⟨_, h1, h2, _⟩
          rw [hside, g4, k6] at h1
          rw [hside, g4, k7] at h2
          exact h67 ⟨h1, h2⟩
      · refine (held_len d w hd hd2 h4 h5 ht hl).mono ?_
        rintro e w' ⟨h, hb⟩
        refine ⟨.inr ⟨?_, h⟩, hb⟩
        rintro ⟨⟨_, _, _, _, h1⟩, _⟩
        rw [g4, hdl] at h1
        exact hl h1
    · refine (held_top d w hd hd2 h4 h5 ht).mono ?_
      rintro e w' ⟨h, hb⟩
      refine ⟨.inr ⟨?_, h⟩, hb⟩
      rintro ⟨⟨_, _, _, h1, _⟩, _⟩
      rw [g4, g5] at h1
      exact ht h1
  · refine (held_early d w hd hd2 h45).mono ?_
    rintro e w' ⟨h, hb⟩
    refine ⟨.inr ⟨?_, h⟩, hb⟩
    rintro ⟨⟨_, h1, h2, _⟩, _⟩
    rw [g4] at h1
    rw [g5] at h2
    exact h45 ⟨h1, h2⟩
theorem heldS_ok (d : List UInt8) (h : heldOk d) : StOk (heldS d) ∧ (heldS d).kept.length ≤ (heldS d).cap ∧ (heldS d).cap = (d.getD 4 0).toNat := by
  obtain ⟨hh, h6, h7, _⟩ := h; have hl := sideOf_length d hh; obtain ⟨_, h4, _⟩ := hh; obtain ⟨_, _, h3⟩ := halfN_le _ h4
  refine ⟨seen_ok _ _ (by omega) h4 h7, ?_, rfl⟩
  show ((List.range ((sideOf d).getD 7 0).toNat).map (entAt (sideOf d))).length ≤ _
  rw [kept_len]; exact h7
set_option maxHeartbeats 2000000 in
theorem repair_any (d : ByteArray) (w : World) (hd : d.size ≤ maxLen) :
    Calls Tryz.prog 63 #[.string d] w fun e w' => e = .returned (.tuple #[.string (str (repairR d.data.toList).1), .int .i64 (repairR d.data.toList).2]) ∧ Below w.heap.size w w' := by
  have c1 := fun w => isDisk_any d w hd
  cases hD : isDiskL d.data.toList with
  | false =>
    have e1 : repairR d.data.toList = ([], 6) := by rw [repairR, if_neg (by rw [hD]; simp)]
    rw [e1]
    rw [hD] at c1
    clear e1
    go_enter Tryz.func63, Tryz.ntmps63
    go_wp2_with (first | (go_at_call 79; refine (c1 _).mono ?_; rintro e w' ⟨rfl, hw⟩; rw [hw]; clear hw w'))
    go_ret2; exact ⟨rfl, Below.refl _ _⟩
  | true =>
    obtain ⟨k, hk1, hk2, hk3⟩ : ∃ k, d.size = k * 32 ∧ 1 ≤ k ∧ k ≤ 40 := by
      have h := hD
      rw [isDiskL, decide_eq_true_eq, len_list] at h
      exact ⟨d.size / 32, by omega, by omega, by omega⟩
    have hdl := len_list d
    rw [hD] at c1
    have c4 := fun w => zeros_any ((k : Int) * 32) w (by omega) (by omega)
    rw [show ((k : Int) * 32).toNat = k * 32 by omega] at c4
    obtain ⟨zz, hzz⟩ : ∃ z, z = str (List.replicate (k * 32) (0 : UInt8)) := ⟨_, rfl⟩
    have hzs : zz.size = k * 32 := by rw [hzz, str_size, List.length_replicate]
    have hbq : ((d.extract 0 32).toList == (zz.extract 0 32).toList) = decide (d.data.toList.take 32 = List.replicate 32 0) := by
      have e : zz.extract 0 32 = str (List.replicate 32 0) := by
        rw [hzz, ext_sub, str_toList, List.drop_zero, Nat.sub_zero, List.take_replicate, Nat.min_eq_left (by omega)]
      rw [e, ext_beq]
    rw [← hzz] at c4
    have i32 : (32 : Int) ≤ (k : Int) * 32 := by omega
    have n32 : 32 ≤ k * 32 := by omega
    by_cases h0 : d.data.toList.take 32 = List.replicate 32 0
    · have e1 : repairR d.data.toList = (List.replicate (k * 32) 0, 0) := by rw [repairR, if_pos hD, if_pos h0, hdl, hk1]
      rw [e1, decide_eq_true h0] at *
      have HZ : Hid (zz = str (List.replicate (k * 32) (0 : UInt8))) := hzz; clear e1 hzz h0 hD
      go_enter Tryz.func63, Tryz.ntmps63
      go_upto_region 5 with (first | (go_at_call 79; refine (c1 _).mono ?_; rintro e w' ⟨rfl, hw⟩; rw [hw]; clear hw w') | (go_at_call 19; refine (c4 _).mono ?_; rintro e w' ⟨rfl, hw⟩; rw [hw]; clear hw w'))
      go_region
      go_wp2; go_ret2
      refine ⟨?_, (Below.refl _ _).drew⟩
      show Ending.returned (Value.tuple #[Value.string zz, _]) = _
      rw [HZ.out]; rfl
    · rw [decide_eq_false h0] at hbq
      have c5 := fun w => held_any d w (by omega) (by omega)
      by_cases hok : heldOk d.data.toList
      · have e1 : repairR d.data.toList = (packL (heldS d.data.toList) (liveL d.data.toList) (k * 32), 0) := by rw [repairR, if_pos hD, if_neg h0, if_pos hok, hdl, hk1]
        rw [e1]; obtain ⟨o1, o2, o3⟩ := heldS_ok _ hok; have hlv : liveL d.data.toList ≤ 1 := hok.1.2.2.1
        have c6 : ∀ w, Calls Tryz.prog 75 #[.string d] w fun e w' => (∃ v, e = .returned (.tuple #[.agg (stCells (heldS d.data.toList) v), .int .i64 (liveL d.data.toList : Int), .bool true]) ∧ EntsAt w' v (heldS d.data.toList).kept) ∧ Below w.heap.size w w' := by
          intro w
          refine (c5 w).mono ?_
          rintro e w' ⟨h, hb⟩
          rcases h with ⟨_, h⟩ | ⟨h, _⟩
          · exact ⟨h.imp fun v q => ⟨q.1, EntsAt.of_own q.2⟩, hb⟩
          · exact absurd hok h
        have cst : ((k * 32 : Nat) : Int) = (k : Int) * 32 := by omega
        have c7 := fun v w h => pack_any (heldS d.data.toList) v (liveL d.data.toList) (k * 32) w o1 h (by omega) (by omega)
        rw [cst] at c7
        generalize str (packL (heldS d.data.toList) (liveL d.data.toList) (k * 32)) = pk at *
        generalize heldS d.data.toList = ss at *
        generalize liveL d.data.toList = lv at *
        have c8 : ∀ w, Calls Tryz.prog 75 #[.string d] w fun e w' => (∃ aa nn cc, e = .returned (.tuple #[.agg #[.int .i64 ss.role, .int .i64 ss.step, .int .i64 ss.sent, .int .i64 ss.got, .int .i64 ss.prev, .int .i64 ss.skip, .int .i64 ss.cap, .string (str ss.root), .string (str ss.out), .string (str ss.inn), .int .i64 ss.secret, .int .i64 ss.peer, .slice aa nn cc], .int .i64 lv, .bool true]) ∧ EntsAt w' (.slice aa nn cc) ss.kept) ∧ Below w.heap.size w w' := by
          intro w
          refine (c6 w).mono ?_
          rintro e w' ⟨⟨v, h1, h2⟩, hb⟩
          obtain ⟨aa, cc, hv⟩ := h2.form; subst hv; exact ⟨⟨_, _, _, h1, h2⟩, hb⟩
        have c9 : ∀ aa nn cc w, EntsAt w (.slice aa nn cc) ss.kept → Calls Tryz.prog 98 #[.agg #[.int .i64 ss.role, .int .i64 ss.step, .int .i64 ss.sent, .int .i64 ss.got, .int .i64 ss.prev, .int .i64 ss.skip, .int .i64 ss.cap, .string (str ss.root), .string (str ss.out), .string (str ss.inn), .int .i64 ss.secret, .int .i64 ss.peer, .slice aa nn cc], .int .i64 lv, .int .i64 ((k : Int) * 32)] w fun e w' => e = .returned (.string pk) ∧ Below w.heap.size w w' := fun aa nn cc w h => c7 (.slice aa nn cc) w h
        clear e1 hzz h0 hD hok c5 c6 c7 o2 o3
        go_enter Tryz.func63, Tryz.ntmps63
        go_upto_region 5 with (first | (go_at_call 79; refine (c1 _).mono ?_; rintro e w' ⟨rfl, hw⟩; rw [hw]; clear hw w') | (go_at_call 19; refine (c4 _).mono ?_; rintro e w' ⟨rfl, hw⟩; rw [hw]; clear hw w'))
        go_region
        go_wp2_with (first | (go_at_call 75; refine (c8 _).mono ?_; rintro e w2 ⟨⟨aa, nn, cc, rfl, hv⟩, hb2⟩) | (go_at_call 98; with_reducible refine (c9 _ _ _ _ (hv.next ((Below.refl _ _).alloc (Nat.le_refl _) _))).mono ?_; rintro e w3 ⟨rfl, hb3⟩))
        go_ret2
        refine ⟨rfl, ?_⟩
        exact below_tr (below_tr (below_tr (Below.refl _ _).drew hb2) ((Below.refl _ _).alloc (Nat.le_refl _) _)) hb3
      · have e1 : repairR d.data.toList = ([], 12) := by rw [repairR, if_pos hD, if_neg h0, if_neg hok]
        rw [e1]
        have c8 : ∀ w, Calls Tryz.prog 75 #[.string d] w fun e w' => (∃ (ss : StM) (aa : Option Addr) (nn cc : Nat) (l : Int), e = .returned (.tuple #[.agg #[.int .i64 ss.role, .int .i64 ss.step, .int .i64 ss.sent, .int .i64 ss.got, .int .i64 ss.prev, .int .i64 ss.skip, .int .i64 ss.cap, .string (str ss.root), .string (str ss.out), .string (str ss.inn), .int .i64 ss.secret, .int .i64 ss.peer, .slice aa nn cc], .int .i64 l, .bool false])) ∧ Below w.heap.size w w' := by
          intro w
          refine (c5 w).mono ?_
          rintro e w' ⟨h, hb⟩
          rcases h with ⟨h, _⟩ | ⟨_, h⟩
          · exact absurd h hok
          · exact ⟨h, hb⟩
        clear e1 hzz h0 hD hok c5
        go_enter Tryz.func63, Tryz.ntmps63
        go_upto_region 5 with (first | (go_at_call 79; refine (c1 _).mono ?_; rintro e w' ⟨rfl, hw⟩; rw [hw]; clear hw w') | (go_at_call 19; refine (c4 _).mono ?_; rintro e w' ⟨rfl, hw⟩; rw [hw]; clear hw w'))
        go_region
        go_wp2_with (first | (go_at_call 75; refine (c8 _).mono ?_; rintro e w2 ⟨⟨ss, aa, nn, cc, l, rfl⟩, hb2⟩))
        go_ret2
        refine ⟨rfl, ?_⟩
        exact below_tr (below_tr (Below.refl _ _).drew hb2) ((Below.refl _ _).alloc (Nat.le_refl _) _)
end Go.Proofs.YtabpkohcimiceabGreat
