import Derived.Test.YtabpkohcimiceabGreatSendX
import Derived.Test.YtabpkohcimiceabGreatLink
import Derived.Test.YtabpkohcimiceabGreatBoxB
import Derived.WalkKit
import Derived.WalkSpells
import Derived.WalkLawsBesides
import Derived.OwnWalk
import Derived.Laws.Rows
import Derived.Deep.RegionHeld3
import Derived.Deep.DeepMust
import Derived.Deep.DeepCutAuto
namespace Go.Proofs.YtabpkohcimiceabGreat
open Go.RowKit
set_option linter.unusedVariables false

/-! ### pawlref.Send, a letter -/
theorem ents_lt {w : World} {v : Value} {l : List EntM} (h : EntsAt w v l) {g o n c : Nat} (hv : v = .slice (some ⟨g, o, none⟩) n c) : g < w.heap.size := by
  rcases h with ⟨h1, _⟩ | ⟨g', cap, h1, _, h3, _⟩
  · rw [h1] at hv; cases hv
  · rw [h1] at hv
    injection hv with q1 _ _
    injection q1 with q1
    injection q1 with q1 _
    subst q1
    exact h3
theorem ents_set {w : World} {v : Value} {l : List EntM} {b : Nat} (h : EntsAt w v l) (ho : ∀ g o n c, v = .slice (some ⟨g, o, none⟩) n c → g ≠ b) (i : Nat) (x : Value) : EntsAt (w.setCell ⟨b, i, none⟩ x) v l := by
  rcases h with h | ⟨g, cap, h1, h2, h3, h4⟩
  · exact .inl h
  · have hg : g ≠ b := ho g 0 _ _ h1
    have f : ∀ j y, w.cell? ⟨g, j, none⟩ = some y → (w.setCell ⟨b, i, none⟩ x).cell? ⟨g, j, none⟩ = some y := fun j y hy => (World.cell?_setCell_far w _ _ _ (fun e => hg e.symm)).trans hy
    refine .inr ⟨g, cap, h1, h2, by rw [World.size_setCell]; exact h3, fun j hj => ?_⟩
    obtain ⟨a, b', c⟩ := h4 j hj
    exact ⟨f _ _ a, f _ _ b', f _ _ c⟩
attribute [local go_sem] str_one_size str_fourN_size
theorem headB_parts (a b c d : Nat) : str [UInt8.ofNat a] ++ str [UInt8.ofNat b] ++ str [UInt8.ofNat c] ++ str (fourN d) = str (headB a b c d) := by
  rw [str_append, str_append, str_append]; rfl

set_option maxRecDepth 100000 in
set_option maxHeartbeats 1000000 in
theorem refSend_ok (d t : ByteArray) (w : World) (hd : d.size ≤ maxLen) (he : sendErr d.data.toList t.data.toList = 0) :
    Calls Tryz.prog 66 #[.string d, .string t] w fun e w' => e = .returned (.tuple #[.string (str (sendLet d.data.toList t.data.toList)), .string (str (sendTo d.data.toList t.data.toList)), .int .i64 0]) ∧ Below w.heap.size w w' := by
  obtain ⟨h, ht, h0, h50, h30⟩ := send_ok _ _ he
  obtain ⟨k, hg⟩ := open_good _ h
  have hdl := len_list d
  have hk : d.size = k * 32 := by rw [← hdl]; exact hg.len
  have hk2 := hg.k2
  have hlv := hg.live
  obtain ⟨gl, gk⟩ := good_lawQ hg
  obtain ⟨sl, sk⟩ := send_law gl gk h0 h50
  have hkl := hg.kept
  have hcap := hg.cap
  have hok2 : StOk (sendS (heldS d.data.toList)) := stOk_of sl sk (by show (heldS d.data.toList).kept.length ≤ 255; omega)
  have hso := hg.ok
  have hsec := gl.sec
  have ho8 := hso.out
  have b1 := hso.step
  have b2 := hso.sent
  have b4 := hso.prev
  rw [len_list] at ht
  have i40 : ¬ (40 : Int) < (t.size : Int) := by omega
  have i0 : ¬ ((heldS d.data.toList).step : Int) = 0 := by omega
  have k50 : ¬ (50 : Int) ≤ ((heldS d.data.toList).sent : Int) := by omega
  have k30 : ¬ (30 : Int) ≤ ((heldS d.data.toList).step : Int) := by omega
  have c1 : ∀ w, Calls Tryz.prog 33 #[.string d] w fun e w' => (∃ (a : Option Addr) (n c : Nat), e = .returned (.tuple #[.agg (stCells (heldS d.data.toList) (.slice a n c)), .int .i64 (liveL d.data.toList : Int), .int .i64 0]) ∧ w'.ownsRow w.heap.size 119 3 (.slice a n c) (heldS d.data.toList).kept.length (entsCells (heldS d.data.toList).kept)) ∧ Below w.heap.size w w' := by
    intro w
    refine (refOpen_any d w hd).mono ?_
    rintro e w' ⟨q, hb⟩
    rcases q with ⟨_, q⟩ | ⟨q, _⟩
    · exact ⟨q, hb⟩
    · exact absurd h q
  have c2 : ∀ w, Calls Tryz.prog 34 #[.int .i64 ((heldS d.data.toList).secret : Int)] w fun e w' => e = .returned (.tuple #[.int .i64 (pwN 7 (heldS d.data.toList).secret : Int), .int .i64 0]) ∧ w' = w := by
    intro w
    have := refPublic_any ((heldS d.data.toList).secret : Int) w
    rw [shOut, if_pos ⟨hsec, by unfold Pub; omega⟩, shErr, if_pos ⟨hsec, by unfold Pub; omega⟩, pw, Int.toNat_natCast] at this
    exact this
  have hp := pwN_lt 7 (heldS d.data.toList).secret
  have c4 := fun w => four_nat (pwN 7 (heldS d.data.toList).secret) w (by omega)
  have c5 := fun w => keyOf_any (heldS d.data.toList).out 0 w ho8 (by omega) (by omega)
  have c6 := fun w => refSeal_ok (str (keyK (heldS d.data.toList).out)) (str (headB (heldS d.data.toList).step (heldS d.data.toList).sent (heldS d.data.toList).prev (pwN 7 (heldS d.data.toList).secret))) t w (by rw [str_size, keyK_length]) (by rw [str_size, headB_length]) ht
  have c7 := fun w => chain_any (heldS d.data.toList).out 1 w ho8 (by omega) (by omega)
  have c8 := fun a n c w hv => pack_any (sendS (heldS d.data.toList)) (.slice a n c) (1 - liveL d.data.toList) (k * 32) w hok2 hv (by omega) (by omega)
  rw [str_toList, str_toList] at c6
  have e5 : keyK (chainK (heldS d.data.toList).out (0 : Int).toNat) = keyK (heldS d.data.toList).out := rfl
  have e7 : chainK (heldS d.data.toList).out (1 : Int).toNat = nextK (heldS d.data.toList).out := rfl
  rw [e5] at c5
  rw [e7] at c7
  have HH := fun a b c d => headB_parts a b c d
  have HH2 : Hid (∀ a b c d, str [UInt8.ofNat a] ++ str [UInt8.ofNat b] ++ str [UInt8.ofNat c] ++ str (fourN d) = str (headB a b c d)) := HH
  have hL : Hid (str (letL (heldS d.data.toList) t.data.toList) = str (headB (heldS d.data.toList).step (heldS d.data.toList).sent (heldS d.data.toList).prev (pwN 7 (heldS d.data.toList).secret)) ++ str (sealL (keyK (heldS d.data.toList).out) (headB (heldS d.data.toList).step (heldS d.data.toList).sent (heldS d.data.toList).prev (pwN 7 (heldS d.data.toList).secret)) t.data.toList)) := by
    show _ = _
    rw [letL, str_append]
  rw [sendLet, if_pos he, sendTo, if_pos he, hdl, hk, hL.out]
  have z1 : (str (headB (heldS d.data.toList).step (heldS d.data.toList).sent (heldS d.data.toList).prev (pwN 7 (heldS d.data.toList).secret))).size = 7 := by rw [str_size, headB_length]
  have z2 : (str (sealL (keyK (heldS d.data.toList).out) (headB (heldS d.data.toList).step (heldS d.data.toList).sent (heldS d.data.toList).prev (pwN 7 (heldS d.data.toList).secret)) t.data.toList)).size = t.size + 8 := by rw [str_size, sealL_length, len_list]
  have clv : ((1 - liveL d.data.toList : Nat) : Int) = 1 - (liveL d.data.toList : Int) := by omega
  have ck : ((k * 32 : Nat) : Int) = (k : Int) * 32 := by omega
  rw [clv, ck] at c8
  have HHd : Hid (str (headB (heldS d.data.toList).step (heldS d.data.toList).sent (heldS d.data.toList).prev (pwN 7 (heldS d.data.toList).secret)) = str (headB (heldS d.data.toList).step (heldS d.data.toList).sent (heldS d.data.toList).prev (pwN 7 (heldS d.data.toList).secret))) := rfl
  generalize str (sealL (keyK (heldS d.data.toList).out) (headB (heldS d.data.toList).step (heldS d.data.toList).sent (heldS d.data.toList).prev (pwN 7 (heldS d.data.toList).secret)) t.data.toList) = sl at *
  obtain ⟨hd', hhd⟩ : ∃ x, x = str (headB (heldS d.data.toList).step (heldS d.data.toList).sent (heldS d.data.toList).prev (pwN 7 (heldS d.data.toList).secret)) := ⟨_, rfl⟩
  rw [← hhd] at z1 c6 ⊢
  have HHD : Hid (hd' = str (headB (heldS d.data.toList).step (heldS d.data.toList).sent (heldS d.data.toList).prev (pwN 7 (heldS d.data.toList).secret))) := hhd
  clear hhd HHd HH
  generalize str (keyK (heldS d.data.toList).out) = ky at *
  generalize str (packL (sendS (heldS d.data.toList)) (1 - liveL d.data.toList) (k * 32)) = pk at *
  generalize pwN 7 (heldS d.data.toList).secret = pn at *
  unfold stCells at c1
  generalize heldS d.data.toList = ss at *
  generalize liveL d.data.toList = lv at *
  have c8' : ∀ a n c w, EntsAt w (.slice a n c) ss.kept → Calls Tryz.prog 98 #[.agg #[.int .i64 (ss.role : Int), .int .i64 (ss.step : Int), .int .i64 ((ss.sent : Int) + 1), .int .i64 (ss.got : Int), .int .i64 (ss.prev : Int), .int .i64 (ss.skip : Int), .int .i64 (ss.cap : Int), .string (str ss.root), .string (str (nextK ss.out)), .string (str ss.inn), .int .i64 (ss.secret : Int), .int .i64 (ss.peer : Int), .slice a n c], .int .i64 (1 - (lv : Int)), .int .i64 ((k : Int) * 32)] w fun e w' => e = .returned (.string pk) ∧ Below w.heap.size w w' := c8
  generalize str (nextK ss.out) = nx at *
  clear hg gl gk sl sk he h h0 h50 h30 hok2 hso ht c8 hL e5 e7 clv hsec
  go_enter Tryz.func66, Tryz.ntmps66
  go_upto_region 10 with (first | (go_at_call 33; (with_reducible refine (c1 _).mono ?_); rintro e w1 ⟨⟨aa, nn, cc, rfl, hown⟩, hb1⟩))
  have hB := heap_alloc_new w1 (.cells #[.int .i64 (ss.role : Int), .int .i64 (ss.step : Int), .int .i64 (ss.sent : Int), .int .i64 (ss.got : Int), .int .i64 (ss.prev : Int), .int .i64 (ss.skip : Int), .int .i64 (ss.cap : Int), .string (str ss.root), .string (str ss.out), .string (str ss.inn), .int .i64 (ss.secret : Int), .int .i64 (ss.peer : Int), .slice aa nn cc] 63)
  have hE : EntsAt (w1.alloc (.cells #[.int .i64 (ss.role : Int), .int .i64 (ss.step : Int), .int .i64 (ss.sent : Int), .int .i64 (ss.got : Int), .int .i64 (ss.prev : Int), .int .i64 (ss.skip : Int), .int .i64 (ss.cap : Int), .string (str ss.root), .string (str ss.out), .string (str ss.inn), .int .i64 (ss.secret : Int), .int .i64 (ss.peer : Int), .slice aa nn cc] 63)) (.slice aa nn cc) ss.kept := EntsAt.of_own (hown.alloc _)
  have hW : Below w.heap.size w (w1.alloc (.cells #[.int .i64 (ss.role : Int), .int .i64 (ss.step : Int), .int .i64 (ss.sent : Int), .int .i64 (ss.got : Int), .int .i64 (ss.prev : Int), .int .i64 (ss.skip : Int), .int .i64 (ss.cap : Int), .string (str ss.root), .string (str ss.out), .string (str ss.inn), .int .i64 (ss.secret : Int), .int .i64 (ss.peer : Int), .slice aa nn cc] 63)) := hb1.alloc hb1.size _
  have hlt : w1.heap.size < (w1.alloc (.cells #[.int .i64 (ss.role : Int), .int .i64 (ss.step : Int), .int .i64 (ss.sent : Int), .int .i64 (ss.got : Int), .int .i64 (ss.prev : Int), .int .i64 (ss.skip : Int), .int .i64 (ss.cap : Int), .string (str ss.root), .string (str ss.out), .string (str ss.inn), .int .i64 (ss.secret : Int), .int .i64 (ss.peer : Int), .slice aa nn cc] 63)).heap.size := by simp
  have hle := hb1.size
  have hoff : ∀ g o n c, Value.slice aa nn cc = .slice (some ⟨g, o, none⟩) n c → g ≠ w1.heap.size := by
    intro g o n c hv
    have := ents_lt (EntsAt.of_own hown) hv
    omega
  generalize (w1.alloc (.cells #[.int .i64 (ss.role : Int), .int .i64 (ss.step : Int), .int .i64 (ss.sent : Int), .int .i64 (ss.got : Int), .int .i64 (ss.prev : Int), .int .i64 (ss.skip : Int), .int .i64 (ss.cap : Int), .string (str ss.root), .string (str ss.out), .string (str ss.inn), .int .i64 (ss.secret : Int), .int .i64 (ss.peer : Int), .slice aa nn cc] 63)) = wb at hB hE hW hlt ⊢
  generalize w1.heap.size = B at hB hlt hle hoff ⊢
  have HOFF : Hid (∀ g o n c, Value.slice aa nn cc = .slice (some ⟨g, o, none⟩) n c → g ≠ B) := hoff
  have HB : Hid (wb.heap[B]? = some (.cells #[.int .i64 (ss.role : Int), .int .i64 (ss.step : Int), .int .i64 (ss.sent : Int), .int .i64 (ss.got : Int), .int .i64 (ss.prev : Int), .int .i64 (ss.skip : Int), .int .i64 (ss.cap : Int), .string (str ss.root), .string (str ss.out), .string (str ss.inn), .int .i64 (ss.secret : Int), .int .i64 (ss.peer : Int), .slice aa nn cc] 63)) := hB
  have HE : Hid (EntsAt wb (.slice aa nn cc) ss.kept) := hE
  have HW : Hid (Below w.heap.size w wb) := hW
  have k1 : wb.cell? ⟨B, 1, none⟩ = some (.int .i64 (ss.step : Int)) := cell_of_row wb _ 1 _ _ _ hB
  have k2 : wb.cell? ⟨B, 2, none⟩ = some (.int .i64 (ss.sent : Int)) := cell_of_row wb _ 2 _ _ _ hB
  have k4 : wb.cell? ⟨B, 4, none⟩ = some (.int .i64 (ss.prev : Int)) := cell_of_row wb _ 4 _ _ _ hB
  have k10 : wb.cell? ⟨B, 10, none⟩ = some (.int .i64 (ss.secret : Int)) := cell_of_row wb _ 10 _ _ _ hB
  clear hB hE hW hown hb1 hoff c1
  go_upto_region 11 with (first | (go_at_call 34; (with_reducible refine (c2 _).mono ?_); rintro e w' ⟨rfl, hw⟩; rw [hw]; clear hw w'))
  go_cut [12] (fun x wx => x = .string hd' ∧ Below wb.heap.size wb wx)
  case first =>
    go_region_held3 (fun w' => w'.cell? ⟨B, 1, none⟩ = some (.int .i64 (ss.step : Int)) ∧ w'.cell? ⟨B, 2, none⟩ = some (.int .i64 (ss.sent : Int)) ∧ w'.cell? ⟨B, 4, none⟩ = some (.int .i64 (ss.prev : Int))) (simp (maxDischargeDepth := 40) [World.cell?_alloc_some, k1, k2, k4]) (first | (go_at_call 76; go_must (refine (one_nat _ _ (by omega) (by omega)).mono ?_); rintro e w' ⟨rfl, cc', rfl⟩) | (go_at_call 108; go_must (refine (c4 _).mono ?_); rintro e w' ⟨rfl, e1, e2, e3, e4, rfl⟩))
    go_wp2_with fail
    go_meet
    case rel =>
      refine ⟨?_, ?_⟩
      · rw [HHD.out, ← HH2.out]
      · repeat (first | exact Below.refl _ _ | apply Below.drew | (refine Below.alloc ?_ (by first | exact Nat.le_refl _ | (simp; done) | (simp; omega)) _))
  case rest =>
    obtain ⟨rfl, hb2⟩ := hcut
    have HB2 : Hid (wc.heap[B]? = some (.cells #[.int .i64 (ss.role : Int), .int .i64 (ss.step : Int), .int .i64 (ss.sent : Int), .int .i64 (ss.got : Int), .int .i64 (ss.prev : Int), .int .i64 (ss.skip : Int), .int .i64 (ss.cap : Int), .string (str ss.root), .string (str ss.out), .string (str ss.inn), .int .i64 (ss.secret : Int), .int .i64 (ss.peer : Int), .slice aa nn cc] 63)) := (hb2.block B hlt).trans HB.out
    have HE2 : Hid (EntsAt wc (.slice aa nn cc) ss.kept) := HE.out.next hb2
    have HW2 : Hid (Below w.heap.size w wc) := below_tr HW.out hb2
    have hlt2 : B < wc.heap.size := Nat.lt_of_lt_of_le hlt hb2.size
    have k8 : wc.cell? ⟨B, 8, none⟩ = some (.string (str ss.out)) := cell_of_row wc _ 8 _ _ _ HB2.out
    clear k1 k2 k4 k10 HB HE HW hb2 hlt c2 c4
    go_upto_region 13 with (first | (go_at_call 109; (with_reducible refine (c5 _).mono ?_); rintro e w3 ⟨rfl, hb3⟩) | (go_at_call 46; (with_reducible refine (c6 _).mono ?_); rintro e w4 ⟨rfl, hb4⟩))
    have HB4 : Hid (w4.heap[B]? = some (.cells #[.int .i64 (ss.role : Int), .int .i64 (ss.step : Int), .int .i64 (ss.sent : Int), .int .i64 (ss.got : Int), .int .i64 (ss.prev : Int), .int .i64 (ss.skip : Int), .int .i64 (ss.cap : Int), .string (str ss.root), .string (str ss.out), .string (str ss.inn), .int .i64 (ss.secret : Int), .int .i64 (ss.peer : Int), .slice aa nn cc] 63)) := (hb4.block B (Nat.lt_of_lt_of_le hlt2 hb3.size)).trans ((hb3.block B hlt2).trans HB2.out)
    have HE4 : Hid (EntsAt w4 (.slice aa nn cc) ss.kept) := (HE2.out.next hb3).next hb4
    have HW4 : Hid (Below w.heap.size w w4) := below_tr (below_tr HW2.out hb3) hb4
    have hlt4 : B < w4.heap.size := Nat.lt_of_lt_of_le (Nat.lt_of_lt_of_le hlt2 hb3.size) hb4.size
    have q8 : w4.cell? ⟨B, 8, none⟩ = some (.string (str ss.out)) := cell_of_row w4 _ 8 _ _ _ HB4.out
    clear k8 HB2 HE2 HW2 hb3 hb4 hlt2 c5 c6
    go_upto_region 15 with (first | (go_at_call 110; (with_reducible refine (c7 _).mono ?_); rintro e w5 ⟨rfl, hb5⟩; have hB5 := (hb5.block B hlt4).trans HB4.out; have HE5 : Hid (EntsAt w5 (.slice aa nn cc) ss.kept) := HE4.out.next hb5; have HW5 : Hid (Below w.heap.size w w5) := below_tr HW4.out hb5; have r8 : w5.cell? ⟨B, 8, none⟩ = some (.string (str ss.out)) := cell_of_row w5 _ 8 _ _ _ hB5; have r2 : w5.cell? ⟨B, 2, none⟩ = some (.int .i64 (ss.sent : Int)) := cell_of_row w5 _ 2 _ _ _ hB5; have fB : ∀ j, w5.frozen? ⟨B, j, none⟩ = false := fun j => frozen_of_row w5 _ j _ _ hB5; have HB5 : Hid (w5.heap[B]? = some (.cells #[.int .i64 (ss.role : Int), .int .i64 (ss.step : Int), .int .i64 (ss.sent : Int), .int .i64 (ss.got : Int), .int .i64 (ss.prev : Int), .int .i64 (ss.skip : Int), .int .i64 (ss.cap : Int), .string (str ss.root), .string (str ss.out), .string (str ss.inn), .int .i64 (ss.secret : Int), .int .i64 (ss.peer : Int), .slice aa nn cc] 63)) := hB5; clear hB5 hb5))
    have hX : ((w5.setCell ⟨B, 8, none⟩ (.string nx)).setCell ⟨B, 2, none⟩ (.int .i64 ((ss.sent : Int) + 1))).heap[B]? = some (.cells #[.int .i64 (ss.role : Int), .int .i64 (ss.step : Int), .int .i64 ((ss.sent : Int) + 1), .int .i64 (ss.got : Int), .int .i64 (ss.prev : Int), .int .i64 (ss.skip : Int), .int .i64 (ss.cap : Int), .string (str ss.root), .string nx, .string (str ss.inn), .int .i64 (ss.secret : Int), .int .i64 (ss.peer : Int), .slice aa nn cc] 63) := heap_setCell_same _ _ _ _ _ _ (heap_setCell_same _ _ _ _ _ _ HB5.out)
    have hZ : Below w.heap.size w ((w5.setCell ⟨B, 8, none⟩ (.string nx)).setCell ⟨B, 2, none⟩ (.int .i64 ((ss.sent : Int) + 1))) := (HW5.out.setCell (by show w.heap.size ≤ B; omega) _).setCell (by show w.heap.size ≤ B; omega) _
    have hV : EntsAt ((w5.setCell ⟨B, 8, none⟩ (.string nx)).setCell ⟨B, 2, none⟩ (.int .i64 ((ss.sent : Int) + 1))) (.slice aa nn cc) ss.kept := ents_set (ents_set HE5.out HOFF.out _ _) HOFF.out _ _
    generalize ((w5.setCell ⟨B, 8, none⟩ (.string nx)).setCell ⟨B, 2, none⟩ (.int .i64 ((ss.sent : Int) + 1))) = wz at hX hZ hV ⊢
    have y0 : wz.cell? ⟨B, 0, none⟩ = some (.int .i64 (ss.role : Int)) := cell_of_row wz _ 0 _ _ _ hX
    have y1 : wz.cell? ⟨B, 1, none⟩ = some (.int .i64 (ss.step : Int)) := cell_of_row wz _ 1 _ _ _ hX
    have y2 : wz.cell? ⟨B, 2, none⟩ = some (.int .i64 ((ss.sent : Int) + 1)) := cell_of_row wz _ 2 _ _ _ hX
    have y3 : wz.cell? ⟨B, 3, none⟩ = some (.int .i64 (ss.got : Int)) := cell_of_row wz _ 3 _ _ _ hX
    have y4 : wz.cell? ⟨B, 4, none⟩ = some (.int .i64 (ss.prev : Int)) := cell_of_row wz _ 4 _ _ _ hX
    have y5 : wz.cell? ⟨B, 5, none⟩ = some (.int .i64 (ss.skip : Int)) := cell_of_row wz _ 5 _ _ _ hX
    have y6 : wz.cell? ⟨B, 6, none⟩ = some (.int .i64 (ss.cap : Int)) := cell_of_row wz _ 6 _ _ _ hX
    have y7 : wz.cell? ⟨B, 7, none⟩ = some (.string (str ss.root)) := cell_of_row wz _ 7 _ _ _ hX
    have y8 : wz.cell? ⟨B, 8, none⟩ = some (.string nx) := cell_of_row wz _ 8 _ _ _ hX
    have y9 : wz.cell? ⟨B, 9, none⟩ = some (.string (str ss.inn)) := cell_of_row wz _ 9 _ _ _ hX
    have y10 : wz.cell? ⟨B, 10, none⟩ = some (.int .i64 (ss.secret : Int)) := cell_of_row wz _ 10 _ _ _ hX
    have y11 : wz.cell? ⟨B, 11, none⟩ = some (.int .i64 (ss.peer : Int)) := cell_of_row wz _ 11 _ _ _ hX
    have y12 : wz.cell? ⟨B, 12, none⟩ = some (.slice aa nn cc) := cell_of_row wz _ 12 _ _ _ hX
    have HZ : Hid (Below w.heap.size w wz) := hZ
    clear hX hZ r8 r2 fB HB5 HE5 HW5 HB4 HE4 HW4 q8
    go_wp2_with (first | (go_at_call 98; go_loud (with_reducible refine (c8' _ _ _ _ hV).mono ?_); rintro e w6 ⟨rfl, hb6⟩))
    go_ret3
    exact ⟨rfl, below_tr HZ.out hb6⟩
theorem refSend_any (d t : ByteArray) (w : World) (hd : d.size ≤ maxLen) :
    Calls Tryz.prog 66 #[.string d, .string t] w fun e w' => e = .returned (.tuple #[.string (str (sendLet d.data.toList t.data.toList)), .string (str (sendTo d.data.toList t.data.toList)), .int .i64 (sendErr d.data.toList t.data.toList)]) ∧ Below w.heap.size w w' := by
  by_cases he : sendErr d.data.toList t.data.toList = 0
  · rw [he]; exact refSend_ok d t w hd he
  · rw [sendLet, if_neg he, sendTo, if_neg he]
    by_cases h : openErr d.data.toList = 0
    · exact refSend_err d t w hd h he
    · have e : sendErr d.data.toList t.data.toList = openErr d.data.toList := by rw [sendErr, if_neg h]
      rw [e]; exact refSend_bad d t w hd h
end Go.Proofs.YtabpkohcimiceabGreat
