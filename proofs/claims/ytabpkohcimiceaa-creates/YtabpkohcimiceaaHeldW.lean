import Derived.Test.YtabpkohcimiceaaHeldR
import Derived.WalkKit
import Derived.WalkSpells
import Derived.WalkLawsBesides
import Derived.OwnWalk
import Derived.Laws.ResultCell
import Derived.BigRegion
import Derived.Deep.QuietTactic
import Derived.BigQuiet
import Derived.Deep.DeepCutAuto
namespace Go.Proofs.Ytabpkohcimiceaa
open Go.RowKit
set_option linter.unusedVariables false

theorem owns_form {w : World} {base n : Nat} {e : TypeId} {v : Value} {xs : List Value} (h : w.ownsRow base e 3 v n xs) : ∃ a m c, v = .slice a m c := by
  rcases h.2 with ⟨h1, _⟩ | ⟨g, cap, _, h1, _⟩
  · exact ⟨none, 0, 0, h1⟩
  · exact ⟨_, _, _, h1⟩
theorem ext_beq2 (d : ByteArray) (a b : Nat) (y : List UInt8) : ((str y).toList == (d.extract a b).toList) = decide (y = (d.extract a b).data.toList) := by
  rw [ByteArray.toList_eq, ByteArray.toList_eq, str_toList]
  by_cases h : y = (d.extract a b).data.toList
  · rw [decide_eq_true h, h]; simp
  · rw [decide_eq_false h, beq_eq_false_iff_ne]; exact h
def HeldOut (ss : StM) (good : Bool) (lv base : Nat) (w' : World) (e : Ending) : Prop :=
  (good = true ∧ ∃ v, e = .returned (.tuple #[.agg (stCells ss v), .int .i64 (lv : Int), .bool true]) ∧ w'.ownsRow base 168 3 v ss.kept.length (entsCells ss.kept)) ∨ (good = false ∧ HeldNo e)
/-- Held's variable s, behind seen. -/
structure HeldAt (w wx : World) (ss : StM) (v : Value) : Prop where
  below : Below w.heap.size w wx
  res : wx.heap[w.heap.size]? = some (.cells zeroCells13 111)
  st : StAt wx (w.heap.size + 1) ss v
  ents : EntsAt wx v ss.kept
  own : ∃ base, w.heap.size + 1 < base ∧ wx.ownsRow base 168 3 v ss.kept.length (entsCells ss.kept)
theorem HeldAt.next {w wx w' : World} {ss : StM} {v : Value} (h : HeldAt w wx ss v) (hb : Below wx.heap.size wx w') : HeldAt w w' ss v :=
  ⟨below_tr h.below hb, (hb.block _ (by have := h.st.lt; omega)).trans h.res, h.st.next hb, h.ents.next hb, h.own.imp fun base h => ⟨h.1, ownsRow_below h.2 hb⟩⟩

set_option maxRecDepth 100000 in
set_option maxHeartbeats 2000000 in
theorem held_seen (d : ByteArray) (w : World) (hd : 32 ≤ d.size) (hd2 : d.size ≤ 1280) (h4 : d[4].toNat ≤ 30) (h5 : d[5].toNat ≤ 1) (ht : d.data.toList.take 32 = topL d[4].toNat d[5].toNat) (hl : 32 + 2 * (halfN d[4].toNat * 32) ≤ d.size) (M : Nat) (hM : M = d[5].toNat * (halfN d[4].toNat * 32))
    (ss : StM) (hok : StOk ss) (c3 : ∀ w, Calls Try.prog 133 #[.string (d.extract (32 + M) (32 + M + halfN d[4].toNat * 32)), .int .i64 (d[4].toNat : Int)] w fun e w' => (∃ v, e = .returned (.tuple #[.agg (stCells ss v), .bool true]) ∧ w'.ownsRow w.heap.size 168 3 v ss.kept.length (entsCells ss.kept)) ∧ Below w.heap.size w w') :
    Calls Try.prog 90 #[.string d] w fun e w' => HeldOut ss (decide (lawfulL ss = true ∧ sideL ss = (d.extract (32 + M) (32 + M + halfN d[4].toNat * 32)).data.toList)) d[5].toNat w.heap.size w' e ∧ Below w.heap.size w w' := by
  generalize hG : decide (lawfulL ss = true ∧ sideL ss = (d.extract (32 + M) (32 + M + halfN d[4].toNat * 32)).data.toList) = good
  have HG : Hid (decide (lawfulL ss = true ∧ sideL ss = (d.extract (32 + M) (32 + M + halfN d[4].toNat * 32)).data.toList) = good) := hG
  clear hG
  have n4 : 4 < d.size := by omega
  have n5 : 5 < d.size := by omega
  have s4 : (4 : Int) < (d.size : Int) := by omega
  have s5 : (5 : Int) < (d.size : Int) := by omega
  have s32 : ¬ (d.size : Int) < 32 := by omega
  have q4 : ¬ (30 : Int) < (d[4].toNat : Int) := by omega
  have q5 : ¬ (1 : Int) < (d[5].toNat : Int) := by omega
  have b4 := d[4].toNat_lt
  have b5 := d[5].toNat_lt
  have c1 := fun w => half_any d[4].toNat w (by omega)
  have c2 := fun w => top_any d[4].toNat d[5].toNat w (by omega) (by omega)
  have hbq := ext_beq d 32 (topL d[4].toNat d[5].toNat)
  obtain ⟨hh1, hh2, hh3⟩ := halfN_le d[4].toNat h4
  rw [decide_eq_true ht] at hbq
  have hlI : ¬ (d.size : Int) < 32 + 2 * ((halfN d[4].toNat : Int) * 32) := by omega
  generalize str (topL d[4].toNat d[5].toNat) = tp at *
  have hMI : (d[5].toNat : Int) * ((halfN d[4].toNat : Int) * 32) = (M : Int) := by
    rw [hM]; simp
  have hM2 : 32 + M + halfN d[4].toNat * 32 ≤ d.size := by
    rw [hM]; have : d[5].toNat = 0 ∨ d[5].toNat = 1 := by omega
    rcases this with e | e <;> rw [e] <;> omega
  have wm : wrap64 ((d[5].toNat : Int) * ((halfN d[4].toNat : Int) * 32)) = (M : Int) := by
    rw [hMI]; unfold wrap64; omega
  clear ht hM hMI
  generalize halfN d[4].toNat = hf at *
  go_enter Try.func90, Try.ntmps90
  go_upto_region 8 with (first | (go_at_call 73; refine (c1 _).mono ?_; rintro e w' ⟨rfl, hw⟩; rw [hw]; clear hw w') | (go_at_call 125; refine (c2 _).mono ?_; rintro e w1 ⟨rfl, hb1⟩))
  obtain ⟨hA, hB, hb⟩ := two_blocks w w1 hb1
  have HB : Hid (Below w.heap.size w w1) := hb
  have HA : Hid (w1.heap[w.heap.size]? = some (.cells zeroCells13 111)) := hA
  have HB2 : Hid (w1.heap[w.heap.size + 1]? = some (.cells zeroCells13 111)) := hB
  have hlt1 : w.heap.size + 1 < w1.heap.size := by have := hb1.size; simp at this; omega
  clear hA hB hb hb1 c1 c2
  go_upto_region 11 with fail
  have c3' : ∀ w, Calls Try.prog 133 #[.string (d.extract (32 + M) (32 + M + hf * 32)), .int .i64 (d[4].toNat : Int)] w fun e w' => (∃ v, e = .returned (.tuple #[.agg #[.int .i64 (ss.role : Int), .int .i64 (ss.step : Int), .int .i64 (ss.sent : Int), .int .i64 (ss.got : Int), .int .i64 (ss.prev : Int), .int .i64 (ss.skip : Int), .int .i64 (ss.cap : Int), .string (str ss.root), .string (str ss.out), .string (str ss.inn), .int .i64 (ss.secret : Int), .int .i64 (ss.peer : Int), v], .bool true]) ∧ w'.ownsRow w.heap.size 168 3 v ss.kept.length (entsCells ss.kept)) ∧ Below w.heap.size w w' := c3
  clear c3
  go_cut [11] (fun tt wx => tt = .bool true ∧ ∃ aa nn cc, HeldAt w wx ss (.slice aa nn cc))
  case first =>
    go_wp2_with (first | (go_at_call 133; refine (c3' _).mono ?_; rintro e w2 ⟨⟨v, rfl, hown⟩, hb2⟩; obtain ⟨aa, nn, cc, hv⟩ := owns_form hown; subst hv; have hA2 := (hb2.block w.heap.size (by omega)).trans HA.out; have hB2 := (hb2.block (w.heap.size + 1) hlt1).trans HB2.out; have g0 : w2.cell? ⟨w.heap.size + 1, 0, none⟩ = some (.int .i64 0) := cell_of_row w2 _ 0 _ _ _ hB2; have g1 : w2.cell? ⟨w.heap.size + 1, 1, none⟩ = some (.int .i64 0) := cell_of_row w2 _ 1 _ _ _ hB2; have g2 : w2.cell? ⟨w.heap.size + 1, 2, none⟩ = some (.int .i64 0) := cell_of_row w2 _ 2 _ _ _ hB2; have g3 : w2.cell? ⟨w.heap.size + 1, 3, none⟩ = some (.int .i64 0) := cell_of_row w2 _ 3 _ _ _ hB2; have g4 : w2.cell? ⟨w.heap.size + 1, 4, none⟩ = some (.int .i64 0) := cell_of_row w2 _ 4 _ _ _ hB2; have g5 : w2.cell? ⟨w.heap.size + 1, 5, none⟩ = some (.int .i64 0) := cell_of_row w2 _ 5 _ _ _ hB2; have g6 : w2.cell? ⟨w.heap.size + 1, 6, none⟩ = some (.int .i64 0) := cell_of_row w2 _ 6 _ _ _ hB2; have g7 : w2.cell? ⟨w.heap.size + 1, 7, none⟩ = some (.string ⟨#[]⟩) := cell_of_row w2 _ 7 _ _ _ hB2; have g8 : w2.cell? ⟨w.heap.size + 1, 8, none⟩ = some (.string ⟨#[]⟩) := cell_of_row w2 _ 8 _ _ _ hB2; have g9 : w2.cell? ⟨w.heap.size + 1, 9, none⟩ = some (.string ⟨#[]⟩) := cell_of_row w2 _ 9 _ _ _ hB2; have g10 : w2.cell? ⟨w.heap.size + 1, 10, none⟩ = some (.int .i64 0) := cell_of_row w2 _ 10 _ _ _ hB2; have g11 : w2.cell? ⟨w.heap.size + 1, 11, none⟩ = some (.int .i64 0) := cell_of_row w2 _ 11 _ _ _ hB2; have g12 : w2.cell? ⟨w.heap.size + 1, 12, none⟩ = some (.slice none 0 0) := cell_of_row w2 _ 12 _ _ _ hB2; have fB : ∀ j, w2.frozen? ⟨w.heap.size + 1, j, none⟩ = false := fun j => frozen_of_row w2 _ j _ _ hB2; have HBB : Hid (Below w.heap.size w w2) := below_tr HB.out hb2; have HOWN : Hid (w2.ownsRow w1.heap.size 168 3 (.slice aa nn cc) ss.kept.length (entsCells ss.kept)) := hown; have HA2 : Hid (w2.heap[w.heap.size]? = some (.cells zeroCells13 111)) := hA2; have hlt2 : w.heap.size + 1 < w2.heap.size := Nat.lt_of_lt_of_le hlt1 hb2.size; clear hA2 hB2 hb2 c3' hown))
    go_meet
    case rel =>
      refine ⟨rfl, aa, nn, cc, ?_, ?_, ?_, ?_, w1.heap.size, hlt1, ?_⟩
      · repeat (refine Below.setCell ?_ (by exact Nat.le_succ _) _)
        exact HBB.out
      · repeat (refine (heap_setCell_other _ _ _ _ (by show w.heap.size ≠ w.heap.size + 1; omega)).trans ?_)
        exact HA2.out
      · constructor <;> simp [go_sem, g0, g1, g2, g3, g4, g5, g6, g7, g8, g9, g10, g11, g12, hlt2]
      · refine EntsAt.of_own (base := w1.heap.size) (e := 168) ?_
        repeat (refine ownsRow_setCell_below ?_ (by exact hlt1) _)
        exact HOWN.out
      · repeat (refine ownsRow_setCell_below ?_ (by exact hlt1) _)
        exact HOWN.out
  case rest =>
    obtain ⟨rfl, aa, nn, cc, hH⟩ := hcut
    have c5 := fun w h => lawful_any ss (.slice aa nn cc) w hok h (fun w h => keys_any ss (.slice aa nn cc) w hok h)
    have c6 := fun w h => side_any ss (.slice aa nn cc) w hok h
    obtain ⟨lt, k0, k1, k2, k3, k4, k5, k6, k7, k8, k9, k10, k11, k12⟩ := hH.st
    by_cases hlaw : lawfulL ss = true
    · rw [hlaw] at c5
      have hsd := ext_beq2 d (32 + M) (32 + M + hf * 32) (sideL ss)
      go_upto_region 17 with (first | (go_at_call 134; refine (c5 _ hH.ents).mono ?_; rintro e w3 ⟨rfl, hb3⟩; have hH3 := hH.next hb3; clear k0 k1 k2 k3 k4 k5 k6 k7 k8 k9 k10 k11 k12; obtain ⟨lt3, k0, k1, k2, k3, k4, k5, k6, k7, k8, k9, k10, k11, k12⟩ := hH3.st; have hA3 := hH3.res; clear hb3 hA3))
      go_upto_region 18 with (first | (go_at_call 127; refine (c6 _ hH3.ents).mono ?_; rintro e w4 ⟨rfl, hb4⟩))
      have hH4 := hH3.next hb4
      clear k0 k1 k2 k3 k4 k5 k6 k7 k8 k9 k10 k11 k12
      obtain ⟨lt4, k0, k1, k2, k3, k4, k5, k6, k7, k8, k9, k10, k11, k12⟩ := hH4.st
      have hA3 := hH4.res
      have HH : Hid (HeldAt w w4 ss (.slice aa nn cc)) := hH4
      have a0 : w4.cell? ⟨w.heap.size, 0, none⟩ = some (.int .i64 0) := cell_of_row w4 _ 0 _ _ _ hA3
      have a1 : w4.cell? ⟨w.heap.size, 1, none⟩ = some (.int .i64 0) := cell_of_row w4 _ 1 _ _ _ hA3
      have a2 : w4.cell? ⟨w.heap.size, 2, none⟩ = some (.int .i64 0) := cell_of_row w4 _ 2 _ _ _ hA3
      have a3 : w4.cell? ⟨w.heap.size, 3, none⟩ = some (.int .i64 0) := cell_of_row w4 _ 3 _ _ _ hA3
      have a4 : w4.cell? ⟨w.heap.size, 4, none⟩ = some (.int .i64 0) := cell_of_row w4 _ 4 _ _ _ hA3
      have a5 : w4.cell? ⟨w.heap.size, 5, none⟩ = some (.int .i64 0) := cell_of_row w4 _ 5 _ _ _ hA3
      have a6 : w4.cell? ⟨w.heap.size, 6, none⟩ = some (.int .i64 0) := cell_of_row w4 _ 6 _ _ _ hA3
      have a7 : w4.cell? ⟨w.heap.size, 7, none⟩ = some (.string ⟨#[]⟩) := cell_of_row w4 _ 7 _ _ _ hA3
      have a8 : w4.cell? ⟨w.heap.size, 8, none⟩ = some (.string ⟨#[]⟩) := cell_of_row w4 _ 8 _ _ _ hA3
      have a9 : w4.cell? ⟨w.heap.size, 9, none⟩ = some (.string ⟨#[]⟩) := cell_of_row w4 _ 9 _ _ _ hA3
      have a10 : w4.cell? ⟨w.heap.size, 10, none⟩ = some (.int .i64 0) := cell_of_row w4 _ 10 _ _ _ hA3
      have a11 : w4.cell? ⟨w.heap.size, 11, none⟩ = some (.int .i64 0) := cell_of_row w4 _ 11 _ _ _ hA3
      have a12 : w4.cell? ⟨w.heap.size, 12, none⟩ = some (.slice none 0 0) := cell_of_row w4 _ 12 _ _ _ hA3
      have fA : ∀ j, w4.frozen? ⟨w.heap.size, j, none⟩ = false := fun j => frozen_of_row w4 _ j _ _ hA3
      clear hA3 hb4 hH4 hH3 hH c5 c6 lt lt3
      generalize str (sideL ss) = sd at *
      have HGG : Hid (good = decide (sideL ss = (d.extract (32 + M) (32 + M + hf * 32)).data.toList)) := by
        show good = _
        rw [← HG.out]
        by_cases hq : sideL ss = (d.extract (32 + M) (32 + M + hf * 32)).data.toList
        · rw [decide_eq_true ⟨hlaw, hq⟩, decide_eq_true hq]
        · rw [decide_eq_false (fun h => hq h.2), decide_eq_false hq]
      have HSD : Hid ((sd.toList == (d.extract (32 + M) (32 + M + hf * 32)).toList) = decide (sideL ss = (d.extract (32 + M) (32 + M + hf * 32)).data.toList)) := hsd
      generalize decide (sideL ss = (d.extract (32 + M) (32 + M + hf * 32)).data.toList) = gg at *
      clear HG
      go_region
      go_wp2
      (try simp only [Exit.inBlock, Exit.then])
      refine bodyPost_ret (v := .tuple #[.agg (stCells ss (.slice aa nn cc)), .int .i64 (d[5].toNat : Int), .bool gg]) ?_ ?_ ?_
      · rw [results_cell_tmp2 (fn := Try.f90) rfl]; simp [go_sem, stCells, a0, a1, a2, a3, a4, a5, a6, a7, a8, a9, a10, a11, a12]
      · rfl
      · refine ⟨?_, ?_⟩
        · cases hgg : gg with
          | true =>
            refine .inl ⟨by rw [HGG.out, hgg], .slice aa nn cc, rfl, ?_⟩
            obtain ⟨base, hb1, hb2⟩ := HH.out.own
            refine ownsRow_base (base := base) ?_ (by omega)
            repeat (first | (with_reducible refine ownsRow_setCell_below ?_ (by show w.heap.size < base; omega) _) | (with_reducible refine ownsRow_drew ?_))
            exact hb2
          | false => exact .inr ⟨by rw [HGG.out, hgg], _, _, _, _, _, rfl⟩
        · repeat (first | (with_reducible refine Below.setCell ?_ (by exact Nat.le_refl _) _) | (with_reducible refine Below.drew ?_))
          exact HH.out.below
    · have hlaw' : lawfulL ss = false := by cases h : lawfulL ss with | true => exact absurd h hlaw | false => rfl
      rw [hlaw'] at c5
      go_upto_region 16 with (first | (go_at_call 134; refine (c5 _ hH.ents).mono ?_; rintro e w3 ⟨rfl, hb3⟩; have hH3 := hH.next hb3; clear k0 k1 k2 k3 k4 k5 k6 k7 k8 k9 k10 k11 k12; obtain ⟨lt3, k0, k1, k2, k3, k4, k5, k6, k7, k8, k9, k10, k11, k12⟩ := hH3.st; have hA3 := hH3.res; have a0 : w3.cell? ⟨w.heap.size, 0, none⟩ = some (.int .i64 0) := cell_of_row w3 _ 0 _ _ _ hA3; have a1 : w3.cell? ⟨w.heap.size, 1, none⟩ = some (.int .i64 0) := cell_of_row w3 _ 1 _ _ _ hA3; have a2 : w3.cell? ⟨w.heap.size, 2, none⟩ = some (.int .i64 0) := cell_of_row w3 _ 2 _ _ _ hA3; have a3 : w3.cell? ⟨w.heap.size, 3, none⟩ = some (.int .i64 0) := cell_of_row w3 _ 3 _ _ _ hA3; have a4 : w3.cell? ⟨w.heap.size, 4, none⟩ = some (.int .i64 0) := cell_of_row w3 _ 4 _ _ _ hA3; have a5 : w3.cell? ⟨w.heap.size, 5, none⟩ = some (.int .i64 0) := cell_of_row w3 _ 5 _ _ _ hA3; have a6 : w3.cell? ⟨w.heap.size, 6, none⟩ = some (.int .i64 0) := cell_of_row w3 _ 6 _ _ _ hA3; have a7 : w3.cell? ⟨w.heap.size, 7, none⟩ = some (.string ⟨#[]⟩) := cell_of_row w3 _ 7 _ _ _ hA3; have a8 : w3.cell? ⟨w.heap.size, 8, none⟩ = some (.string ⟨#[]⟩) := cell_of_row w3 _ 8 _ _ _ hA3; have a9 : w3.cell? ⟨w.heap.size, 9, none⟩ = some (.string ⟨#[]⟩) := cell_of_row w3 _ 9 _ _ _ hA3; have a10 : w3.cell? ⟨w.heap.size, 10, none⟩ = some (.int .i64 0) := cell_of_row w3 _ 10 _ _ _ hA3; have a11 : w3.cell? ⟨w.heap.size, 11, none⟩ = some (.int .i64 0) := cell_of_row w3 _ 11 _ _ _ hA3; have a12 : w3.cell? ⟨w.heap.size, 12, none⟩ = some (.slice none 0 0) := cell_of_row w3 _ 12 _ _ _ hA3; have fA : ∀ j, w3.frozen? ⟨w.heap.size, j, none⟩ = false := fun j => frozen_of_row w3 _ j _ _ hA3; clear hb3 hA3))
      have HH : Hid (HeldAt w w3 ss (.slice aa nn cc)) := hH3
      clear hH3 hH c5 c6 lt lt3
      go_wp2
      (try simp only [Exit.inBlock, Exit.then])
      refine bodyPost_ret (v := .tuple #[.agg (stCells ss (.slice aa nn cc)), .int .i64 0, .bool false]) ?_ ?_ ?_
      · rw [results_cell_tmp2 (fn := Try.f90) rfl]; simp [go_sem, stCells, a0, a1, a2, a3, a4, a5, a6, a7, a8, a9, a10, a11, a12]
      · rfl
      · refine ⟨.inr ⟨?_, _, _, _, _, _, rfl⟩, ?_⟩
        · rw [← HG.out]; exact decide_eq_false (fun h => hlaw h.1)
        repeat (refine Below.setCell ?_ (by exact Nat.le_refl _) _)
        exact HH.out.below
end Go.Proofs.Ytabpkohcimiceaa
