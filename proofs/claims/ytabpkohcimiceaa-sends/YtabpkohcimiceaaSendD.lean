import Derived.Test.YtabpkohcimiceaaSendE
import Derived.Test.YtabpkohcimiceaaSendC
import Derived.Test.YtabpkohcimiceaaRplC
import Derived.WalkKit
import Derived.WalkSpells
import Derived.WalkLawsBesides
import Derived.OwnWalk
import Derived.Laws.Rows
namespace Go.Proofs.Ytabpkohcimiceaa
open Go.RowKit
set_option linter.unusedVariables false

set_option maxRecDepth 100000 in
set_option maxHeartbeats 1000000 in
theorem pawlSend_ok (d t : ByteArray) (w : World) (hd : d.size ≤ maxLen) (he : sendErr d.data.toList t.data.toList = 0) :
    Calls Try.prog 46 #[.string d, .string t] w fun e w' => e = .returned (.tuple #[.string (str (sendLet d.data.toList t.data.toList)), .string (str (sendPlan d.data.toList t.data.toList)), .int .i64 0]) ∧ Below w.heap.size w w' := by
  obtain ⟨h, ht, h0, h50, h30⟩ := send_ok _ _ he
  obtain ⟨k, hg⟩ := open_good _ h
  have hdl := len_list d
  have hk : d.size = k * 32 := by rw [← hdl]; exact hg.len
  have hk2 := hg.k2
  have hlv := hg.live
  obtain ⟨gl, gk⟩ := good_lawQ hg
  obtain ⟨sl, sk⟩ := send_law gl gk h0 h50
  have hkl := hg.kept
  have hcap := hg.cap
  have hok2 : StOk (sendS (heldS d.data.toList)) := stOk_of sl sk (by show (heldS d.data.toList).kept.length ≤ 255; omega)
  have hneed := hg.need
  have hso := hg.ok
  have hsec := gl.sec.2
  rw [len_list] at ht
  have i40 : ¬ (40 : Int) < (t.size : Int) := by omega
  have i0 : ¬ ((heldS d.data.toList).step : Int) = 0 := by omega
  have k50 : ¬ (50 : Int) ≤ ((heldS d.data.toList).sent : Int) := by omega
  have k30 : ¬ (30 : Int) ≤ ((heldS d.data.toList).step : Int) := by omega
  have c1 : ∀ w, Calls Try.prog 96 #[.string d] w fun e w' => (∃ (a : Option Addr) (n c : Nat), e = .returned (.tuple #[.agg (stateCells 3 (repL d.data.toList) (liveL d.data.toList) (heldS d.data.toList) a n c), .int .i64 0]) ∧ w'.ownsRow w.heap.size 178 3 (.slice a n c) (heldS d.data.toList).kept.length (entsCells (heldS d.data.toList).kept)) ∧ Below w.heap.size w w' := by
    intro w
    refine (openDisk_any d w hd).mono ?_
    rintro e w' ⟨q, hb⟩
    rcases q with ⟨_, q⟩ | ⟨q, _⟩
    · exact ⟨q, hb⟩
    · exact absurd h q
  unfold stateCells at c1
  have c2 := fun aa nn cc w => talkSend_any (heldS d.data.toList) aa nn cc t w hso (by omega) ht
  have c3 := fun so rp ss aa nn cc a2 n2 c2 w hv => replace_any d k so rp (liveL d.data.toList) ss aa nn cc (sendS (heldS d.data.toList)) a2 n2 c2 w hk hk2 hlv hok2 (by exact hkl) (by exact hcap) (by exact hneed) hv
  rw [sendLet, if_pos he, sendPlan, if_pos he, hdl, hk]
  have HP : Hid ((sendS (heldS d.data.toList)).cap = (heldS d.data.toList).cap) := rfl
  rw [HP.out] at c3
  generalize str (repL d.data.toList) = rp at *
  generalize str (letL (heldS d.data.toList) t.data.toList) = lt at *
  generalize str (encL (rplR d.data.toList (packL (sendS (heldS d.data.toList)) (1 - liveL d.data.toList) (k * 32)) (heldS d.data.toList).cap (liveL d.data.toList))) = pl at *
  generalize heldS d.data.toList = ss at *
  generalize liveL d.data.toList = lv at *
  have c2' : ∀ aa nn cc w, Calls Try.prog 98 #[.agg #[.int .i64 (ss.role : Int), .int .i64 (ss.step : Int), .int .i64 (ss.sent : Int), .int .i64 (ss.got : Int), .int .i64 (ss.prev : Int), .int .i64 (ss.skip : Int), .int .i64 (ss.cap : Int), .string (str ss.root), .string (str ss.out), .string (str ss.inn), .int .i64 (ss.secret : Int), .int .i64 (ss.peer : Int), .slice aa nn cc], .string t] w fun e w' => e = .returned (.tuple #[.string lt, .agg #[.int .i64 (ss.role : Int), .int .i64 (ss.step : Int), .int .i64 ((ss.sent : Int) + 1), .int .i64 (ss.got : Int), .int .i64 (ss.prev : Int), .int .i64 (ss.skip : Int), .int .i64 (ss.cap : Int), .string (str ss.root), .string (str (nextK ss.out)), .string (str ss.inn), .int .i64 (ss.secret : Int), .int .i64 (ss.peer : Int), .slice aa nn cc]]) ∧ Below w.heap.size w w' := c2
  have c3' : ∀ so rp (sx : StM) aa nn cc a2 n2 c2 w, EntsAt w (.slice a2 n2 c2) ss.kept → Calls Try.prog 99 #[.string d, .agg #[.int .i64 so, .string rp, .int .i64 (lv : Int), .int .i64 (sx.role : Int), .int .i64 (sx.step : Int), .int .i64 (sx.sent : Int), .int .i64 (sx.got : Int), .int .i64 (sx.prev : Int), .int .i64 (sx.skip : Int), .int .i64 (sx.cap : Int), .string (str sx.root), .string (str sx.out), .string (str sx.inn), .int .i64 (sx.secret : Int), .int .i64 (sx.peer : Int), .slice aa nn cc], .agg #[.int .i64 (ss.role : Int), .int .i64 (ss.step : Int), .int .i64 ((ss.sent : Int) + 1), .int .i64 (ss.got : Int), .int .i64 (ss.prev : Int), .int .i64 (ss.skip : Int), .int .i64 (ss.cap : Int), .string (str ss.root), .string (str (nextK ss.out)), .string (str ss.inn), .int .i64 (ss.secret : Int), .int .i64 (ss.peer : Int), .slice a2 n2 c2]] w fun e w' => e = .returned (.string pl) ∧ Below w.heap.size w w' := fun so rp sx aa nn cc a2 n2 c2 w hv => c3 so rp sx aa nn cc a2 n2 c2 w hv
  clear c2 c3 hg gl gk sl sk he h h0 h50 h30 hok2 hso HP ht
  go_enter Try.func46, Try.ntmps46
  go_upto_region 10 with (first | (go_at_call 96; (with_reducible refine (c1 _).mono ?_); rintro e w1 ⟨⟨aa, nn, cc, rfl, hown⟩, hb1⟩))
  have hA := heap_alloc_new w1 (.cells #[.int .i64 3, .string rp, .int .i64 (lv : Int), .int .i64 (ss.role : Int), .int .i64 (ss.step : Int), .int .i64 (ss.sent : Int), .int .i64 (ss.got : Int), .int .i64 (ss.prev : Int), .int .i64 (ss.skip : Int), .int .i64 (ss.cap : Int), .string (str ss.root), .string (str ss.out), .string (str ss.inn), .int .i64 (ss.secret : Int), .int .i64 (ss.peer : Int), .slice aa nn cc] 121)
  have hE : EntsAt (w1.alloc (.cells #[.int .i64 3, .string rp, .int .i64 (lv : Int), .int .i64 (ss.role : Int), .int .i64 (ss.step : Int), .int .i64 (ss.sent : Int), .int .i64 (ss.got : Int), .int .i64 (ss.prev : Int), .int .i64 (ss.skip : Int), .int .i64 (ss.cap : Int), .string (str ss.root), .string (str ss.out), .string (str ss.inn), .int .i64 (ss.secret : Int), .int .i64 (ss.peer : Int), .slice aa nn cc] 121)) (.slice aa nn cc) ss.kept := EntsAt.of_own (hown.alloc _)
  have hW : Below w.heap.size w (w1.alloc (.cells #[.int .i64 3, .string rp, .int .i64 (lv : Int), .int .i64 (ss.role : Int), .int .i64 (ss.step : Int), .int .i64 (ss.sent : Int), .int .i64 (ss.got : Int), .int .i64 (ss.prev : Int), .int .i64 (ss.skip : Int), .int .i64 (ss.cap : Int), .string (str ss.root), .string (str ss.out), .string (str ss.inn), .int .i64 (ss.secret : Int), .int .i64 (ss.peer : Int), .slice aa nn cc] 121)) := hb1.alloc hb1.size _
  have hlt : w1.heap.size < (w1.alloc (.cells #[.int .i64 3, .string rp, .int .i64 (lv : Int), .int .i64 (ss.role : Int), .int .i64 (ss.step : Int), .int .i64 (ss.sent : Int), .int .i64 (ss.got : Int), .int .i64 (ss.prev : Int), .int .i64 (ss.skip : Int), .int .i64 (ss.cap : Int), .string (str ss.root), .string (str ss.out), .string (str ss.inn), .int .i64 (ss.secret : Int), .int .i64 (ss.peer : Int), .slice aa nn cc] 121)).heap.size := by simp
  generalize (w1.alloc (.cells #[.int .i64 3, .string rp, .int .i64 (lv : Int), .int .i64 (ss.role : Int), .int .i64 (ss.step : Int), .int .i64 (ss.sent : Int), .int .i64 (ss.got : Int), .int .i64 (ss.prev : Int), .int .i64 (ss.skip : Int), .int .i64 (ss.cap : Int), .string (str ss.root), .string (str ss.out), .string (str ss.inn), .int .i64 (ss.secret : Int), .int .i64 (ss.peer : Int), .slice aa nn cc] 121)) = wb at hA hE hW hlt ⊢
  generalize w1.heap.size = B at hA hlt ⊢
  have k3 : wb.cell? ⟨B, 3, none⟩ = some (.int .i64 (ss.role : Int)) := cell_of_row wb _ 3 _ _ _ hA
  have k4 : wb.cell? ⟨B, 4, none⟩ = some (.int .i64 (ss.step : Int)) := cell_of_row wb _ 4 _ _ _ hA
  have k5 : wb.cell? ⟨B, 5, none⟩ = some (.int .i64 (ss.sent : Int)) := cell_of_row wb _ 5 _ _ _ hA
  have k6 : wb.cell? ⟨B, 6, none⟩ = some (.int .i64 (ss.got : Int)) := cell_of_row wb _ 6 _ _ _ hA
  have k7 : wb.cell? ⟨B, 7, none⟩ = some (.int .i64 (ss.prev : Int)) := cell_of_row wb _ 7 _ _ _ hA
  have k8 : wb.cell? ⟨B, 8, none⟩ = some (.int .i64 (ss.skip : Int)) := cell_of_row wb _ 8 _ _ _ hA
  have k9 : wb.cell? ⟨B, 9, none⟩ = some (.int .i64 (ss.cap : Int)) := cell_of_row wb _ 9 _ _ _ hA
  have k10 : wb.cell? ⟨B, 10, none⟩ = some (.string (str ss.root)) := cell_of_row wb _ 10 _ _ _ hA
  have k11 : wb.cell? ⟨B, 11, none⟩ = some (.string (str ss.out)) := cell_of_row wb _ 11 _ _ _ hA
  have k12 : wb.cell? ⟨B, 12, none⟩ = some (.string (str ss.inn)) := cell_of_row wb _ 12 _ _ _ hA
  have k13 : wb.cell? ⟨B, 13, none⟩ = some (.int .i64 (ss.secret : Int)) := cell_of_row wb _ 13 _ _ _ hA
  have k14 : wb.cell? ⟨B, 14, none⟩ = some (.int .i64 (ss.peer : Int)) := cell_of_row wb _ 14 _ _ _ hA
  have k15 : wb.cell? ⟨B, 15, none⟩ = some (.slice aa nn cc) := cell_of_row wb _ 15 _ _ _ hA
  have HA : Hid (wb.heap[B]? = some (.cells #[.int .i64 3, .string rp, .int .i64 (lv : Int), .int .i64 (ss.role : Int), .int .i64 (ss.step : Int), .int .i64 (ss.sent : Int), .int .i64 (ss.got : Int), .int .i64 (ss.prev : Int), .int .i64 (ss.skip : Int), .int .i64 (ss.cap : Int), .string (str ss.root), .string (str ss.out), .string (str ss.inn), .int .i64 (ss.secret : Int), .int .i64 (ss.peer : Int), .slice aa nn cc] 121)) := hA
  have HE : Hid (EntsAt wb (.slice aa nn cc) ss.kept) := hE
  have HW : Hid (Below w.heap.size w wb) := hW
  clear hA hE hW hown hb1 c1
  go_upto_region 11 with (first | (go_at_call 98; go_loud (with_reducible refine (c2' _ _ _ _).mono ?_); rintro e w2 ⟨rfl, hb2⟩))
  have hA2 : (w2.alloc (.cells #[.int .i64 (ss.role : Int), .int .i64 (ss.step : Int), .int .i64 ((ss.sent : Int) + 1), .int .i64 (ss.got : Int), .int .i64 (ss.prev : Int), .int .i64 (ss.skip : Int), .int .i64 (ss.cap : Int), .string (str ss.root), .string (str (nextK ss.out)), .string (str ss.inn), .int .i64 (ss.secret : Int), .int .i64 (ss.peer : Int), .slice aa nn cc] 106)).heap[B]? = some (.cells #[.int .i64 3, .string rp, .int .i64 (lv : Int), .int .i64 (ss.role : Int), .int .i64 (ss.step : Int), .int .i64 (ss.sent : Int), .int .i64 (ss.got : Int), .int .i64 (ss.prev : Int), .int .i64 (ss.skip : Int), .int .i64 (ss.cap : Int), .string (str ss.root), .string (str ss.out), .string (str ss.inn), .int .i64 (ss.secret : Int), .int .i64 (ss.peer : Int), .slice aa nn cc] 121) := (Below.heap_alloc _ _ _ (Nat.lt_of_lt_of_le hlt hb2.size)).trans ((hb2.block B hlt).trans HA.out)
  have hX2 := heap_alloc_new w2 (.cells #[.int .i64 (ss.role : Int), .int .i64 (ss.step : Int), .int .i64 ((ss.sent : Int) + 1), .int .i64 (ss.got : Int), .int .i64 (ss.prev : Int), .int .i64 (ss.skip : Int), .int .i64 (ss.cap : Int), .string (str ss.root), .string (str (nextK ss.out)), .string (str ss.inn), .int .i64 (ss.secret : Int), .int .i64 (ss.peer : Int), .slice aa nn cc] 106)
  have hE2 : EntsAt (w2.alloc (.cells #[.int .i64 (ss.role : Int), .int .i64 (ss.step : Int), .int .i64 ((ss.sent : Int) + 1), .int .i64 (ss.got : Int), .int .i64 (ss.prev : Int), .int .i64 (ss.skip : Int), .int .i64 (ss.cap : Int), .string (str ss.root), .string (str (nextK ss.out)), .string (str ss.inn), .int .i64 (ss.secret : Int), .int .i64 (ss.peer : Int), .slice aa nn cc] 106)) (.slice aa nn cc) ss.kept := (HE.out.next hb2).next ((Below.refl _ _).alloc (Nat.le_refl _) _)
  have hW2 : Below w.heap.size w (w2.alloc (.cells #[.int .i64 (ss.role : Int), .int .i64 (ss.step : Int), .int .i64 ((ss.sent : Int) + 1), .int .i64 (ss.got : Int), .int .i64 (ss.prev : Int), .int .i64 (ss.skip : Int), .int .i64 (ss.cap : Int), .string (str ss.root), .string (str (nextK ss.out)), .string (str ss.inn), .int .i64 (ss.secret : Int), .int .i64 (ss.peer : Int), .slice aa nn cc] 106)) := below_tr (below_tr HW.out hb2) ((Below.refl _ _).alloc (Nat.le_refl _) _)
  generalize (w2.alloc (.cells #[.int .i64 (ss.role : Int), .int .i64 (ss.step : Int), .int .i64 ((ss.sent : Int) + 1), .int .i64 (ss.got : Int), .int .i64 (ss.prev : Int), .int .i64 (ss.skip : Int), .int .i64 (ss.cap : Int), .string (str ss.root), .string (str (nextK ss.out)), .string (str ss.inn), .int .i64 (ss.secret : Int), .int .i64 (ss.peer : Int), .slice aa nn cc] 106)) = wz at hA2 hX2 hE2 hW2 ⊢
  generalize w2.heap.size = B2 at hX2 ⊢
  clear k3 k4 k5 k6 k7 k8 k9 k10 k11 k12 k13 k14 k15 HA HE HW hb2
  have x0 : wz.cell? ⟨B, 0, none⟩ = some (.int .i64 3) := cell_of_row wz _ 0 _ _ _ hA2
  have x1 : wz.cell? ⟨B, 1, none⟩ = some (.string rp) := cell_of_row wz _ 1 _ _ _ hA2
  have x2 : wz.cell? ⟨B, 2, none⟩ = some (.int .i64 (lv : Int)) := cell_of_row wz _ 2 _ _ _ hA2
  have x3 : wz.cell? ⟨B, 3, none⟩ = some (.int .i64 (ss.role : Int)) := cell_of_row wz _ 3 _ _ _ hA2
  have x4 : wz.cell? ⟨B, 4, none⟩ = some (.int .i64 (ss.step : Int)) := cell_of_row wz _ 4 _ _ _ hA2
  have x5 : wz.cell? ⟨B, 5, none⟩ = some (.int .i64 (ss.sent : Int)) := cell_of_row wz _ 5 _ _ _ hA2
  have x6 : wz.cell? ⟨B, 6, none⟩ = some (.int .i64 (ss.got : Int)) := cell_of_row wz _ 6 _ _ _ hA2
  have x7 : wz.cell? ⟨B, 7, none⟩ = some (.int .i64 (ss.prev : Int)) := cell_of_row wz _ 7 _ _ _ hA2
  have x8 : wz.cell? ⟨B, 8, none⟩ = some (.int .i64 (ss.skip : Int)) := cell_of_row wz _ 8 _ _ _ hA2
  have x9 : wz.cell? ⟨B, 9, none⟩ = some (.int .i64 (ss.cap : Int)) := cell_of_row wz _ 9 _ _ _ hA2
  have x10 : wz.cell? ⟨B, 10, none⟩ = some (.string (str ss.root)) := cell_of_row wz _ 10 _ _ _ hA2
  have x11 : wz.cell? ⟨B, 11, none⟩ = some (.string (str ss.out)) := cell_of_row wz _ 11 _ _ _ hA2
  have x12 : wz.cell? ⟨B, 12, none⟩ = some (.string (str ss.inn)) := cell_of_row wz _ 12 _ _ _ hA2
  have x13 : wz.cell? ⟨B, 13, none⟩ = some (.int .i64 (ss.secret : Int)) := cell_of_row wz _ 13 _ _ _ hA2
  have x14 : wz.cell? ⟨B, 14, none⟩ = some (.int .i64 (ss.peer : Int)) := cell_of_row wz _ 14 _ _ _ hA2
  have x15 : wz.cell? ⟨B, 15, none⟩ = some (.slice aa nn cc) := cell_of_row wz _ 15 _ _ _ hA2
  have y0 : wz.cell? ⟨B2, 0, none⟩ = some (.int .i64 (ss.role : Int)) := cell_of_row wz _ 0 _ _ _ hX2
  have y1 : wz.cell? ⟨B2, 1, none⟩ = some (.int .i64 (ss.step : Int)) := cell_of_row wz _ 1 _ _ _ hX2
  have y2 : wz.cell? ⟨B2, 2, none⟩ = some (.int .i64 ((ss.sent : Int) + 1)) := cell_of_row wz _ 2 _ _ _ hX2
  have y3 : wz.cell? ⟨B2, 3, none⟩ = some (.int .i64 (ss.got : Int)) := cell_of_row wz _ 3 _ _ _ hX2
  have y4 : wz.cell? ⟨B2, 4, none⟩ = some (.int .i64 (ss.prev : Int)) := cell_of_row wz _ 4 _ _ _ hX2
  have y5 : wz.cell? ⟨B2, 5, none⟩ = some (.int .i64 (ss.skip : Int)) := cell_of_row wz _ 5 _ _ _ hX2
  have y6 : wz.cell? ⟨B2, 6, none⟩ = some (.int .i64 (ss.cap : Int)) := cell_of_row wz _ 6 _ _ _ hX2
  have y7 : wz.cell? ⟨B2, 7, none⟩ = some (.string (str ss.root)) := cell_of_row wz _ 7 _ _ _ hX2
  have y8 : wz.cell? ⟨B2, 8, none⟩ = some (.string (str (nextK ss.out))) := cell_of_row wz _ 8 _ _ _ hX2
  have y9 : wz.cell? ⟨B2, 9, none⟩ = some (.string (str ss.inn)) := cell_of_row wz _ 9 _ _ _ hX2
  have y10 : wz.cell? ⟨B2, 10, none⟩ = some (.int .i64 (ss.secret : Int)) := cell_of_row wz _ 10 _ _ _ hX2
  have y11 : wz.cell? ⟨B2, 11, none⟩ = some (.int .i64 (ss.peer : Int)) := cell_of_row wz _ 11 _ _ _ hX2
  have y12 : wz.cell? ⟨B2, 12, none⟩ = some (.slice aa nn cc) := cell_of_row wz _ 12 _ _ _ hX2
  have HW2 : Hid (Below w.heap.size w wz) := hW2
  clear hA2 hX2 hW2
  go_wp2_with (first | (go_at_call 99; go_loud (with_reducible refine (c3' _ _ _ _ _ _ _ _ _ _ hE2).mono ?_); rintro e w3 ⟨rfl, hb3⟩))
  go_ret3
  exact ⟨rfl, below_tr HW2.out hb3⟩
theorem pawlSend_any (d t : ByteArray) (w : World) (hd : d.size ≤ maxLen) :
    Calls Try.prog 46 #[.string d, .string t] w fun e w' => e = .returned (.tuple #[.string (str (sendLet d.data.toList t.data.toList)), .string (str (sendPlan d.data.toList t.data.toList)), .int .i64 (sendErr d.data.toList t.data.toList)]) ∧ Below w.heap.size w w' := by
  by_cases he : sendErr d.data.toList t.data.toList = 0
  · rw [he]; exact pawlSend_ok d t w hd he
  · rw [sendLet, if_neg he, sendPlan, if_neg he]
    by_cases h : openErr d.data.toList = 0
    · exact pawlSend_err d t w hd h he
    · have e : sendErr d.data.toList t.data.toList = openErr d.data.toList := by rw [sendErr, if_neg h]
      rw [e]; exact pawlSend_bad d t w hd h
end Go.Proofs.Ytabpkohcimiceaa
