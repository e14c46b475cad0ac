import Derived.Test.YtabpkohcimiceabGreatRecvP
import Derived.Test.YtabpkohcimiceabGreatRefY
import Derived.Test.YtabpkohcimiceabGreatRefZ
import Derived.Test.YtabpkohcimiceabGreatRefH
import Derived.Test.YtabpkohcimiceabGreatOpen
import Derived.Test.YtabpkohcimiceabGreatBoxB
import Derived.Test.YtabpkohcimiceabGreatSeals
import Derived.WalkKit
import Derived.WalkSpells
import Derived.WalkLawsBesides
import Derived.OwnWalk
import Derived.Laws.Rows
namespace Go.Proofs.YtabpkohcimiceabGreat
open Go.RowKit
set_option linter.unusedVariables false

/-! ### The document's answer to a letter, held against the program's: plain -/
theorem refDue_eq {s : StM} (h : LawQ s) (hk : Keyed s) (h2 : 2 ≤ s.step) (count : Nat) (hc : count ≤ 49) (hge : s.got ≤ count) :
    (refDueR s count).1 = (dueR s count).1 ∧ ((dueR s count).1 = 0 → (refDueR s count).2.1 = (dueR s count).2.1 ∧ (refDueR s count).2.2 = capS (dueR s count).2.2) := by
  rw [refDueR, dueR]
  by_cases hb : skipBad s count
  · rw [if_pos hb, if_pos hb]
    exact ⟨rfl, fun q => absurd q (by simp)⟩
  · rw [if_neg hb, if_neg hb]
    refine ⟨rfl, fun _ => ⟨rfl, ?_⟩⟩
    have hr := (due_law h hk h2 count hc hge hb).1.keys.srt
    show ({ dueS s count with kept := greatL (dueS s count).kept s.cap } : StM) = capS (dueS s count)
    rw [great_drop _ _ hr]
    rfl
theorem refTake_eq {s : StM} (h : LawQ s) (hk : Keyed s) (hn : s.kept.length ≤ s.cap) (l : LetM) (draw : Nat) (hl1 : 1 ≤ l.step) (hl2 : l.step ≤ 29) (hc : l.count ≤ 49) (hp : l.prev ≤ 50) (hpub : Pub (l.pub : Int)) (hd : Sec (draw : Int)) (hx : ¬ (s.step + 1 < l.step ∨ l.step % 2 = s.step % 2)) :
    (refTakeR s l draw).1 = (keyR s l draw).1 ∧ ((keyR s l draw).1 = 0 → (refTakeR s l draw).2.1 = (keyR s l draw).2.1 ∧ (refTakeR s l draw).2.2 = capS (keyR s l draw).2.2) := by
  rw [refTakeR, keyR, if_neg hx]
  by_cases h1 : l.step = s.step + 1
  · rw [if_pos h1, if_pos h1, refTurnR, turnR]
    by_cases h2 : 2 ≤ s.step ∧ skipBad s l.prev
    · rw [if_pos h2, if_pos h2]
      exact ⟨rfl, fun q => absurd q (by simp)⟩
    · rw [if_neg h2, if_neg h2]
      obtain ⟨e1, e2⟩ := end_law h hk l.prev hp h2
      obtain ⟨t1, t2⟩ := turn_law e1 e2 l.step l.pub draw (by rw [(endS_step s l.prev).1]; exact h1) hl2 hpub hd
      exact refDue_eq t1 t2 (by show 2 ≤ l.step + 1; omega) l.count hc (by show 0 ≤ l.count; omega)
  · rw [if_neg h1, if_neg h1]
    by_cases h2 : l.step + 1 = s.step ∧ s.got ≤ l.count
    · rw [if_pos h2, if_pos h2]
      exact refDue_eq h hk (by omega) l.count hc h2.2
    · rw [if_neg h2, if_neg h2]
      refine ⟨rfl, fun q => ⟨rfl, ?_⟩⟩
      rw [capS_id]
      rw [oldR] at q ⊢
      cases hf : s.kept.find? (isEnt l.step l.count) with
      | none => rw [hf] at q; simp at q
      | some e =>
        show (s.kept.filter _).length ≤ s.cap
        exact Nat.le_trans (List.length_filter_le _ _) hn
end Go.Proofs.YtabpkohcimiceabGreat

namespace Go.Proofs.YtabpkohcimiceabGreat
open Go.RowKit
set_option linter.unusedVariables false
set_option linter.unusedSimpArgs false

/-! ### pawlref.Receive -/

set_option maxRecDepth 100000 in
set_option maxHeartbeats 1000000 in
theorem refRecv_bad (d t : ByteArray) (draw : Int) (w : World) (hd : d.size ≤ maxLen) (h : openErr d.data.toList ≠ 0) :
    Calls Tryz.prog 70 #[.string d, .string t, .int .i64 draw] w fun e w' => e = .returned (.tuple #[.string ⟨#[]⟩, .string ⟨#[]⟩, .int .i64 (openErr d.data.toList)]) ∧ Below w.heap.size w w' := by
  have c1 : ∀ w, Calls Tryz.prog 33 #[.string d] w fun e w' => e = .returned (.tuple #[.agg #[.int .i64 0, .int .i64 0, .int .i64 0, .int .i64 0, .int .i64 0, .int .i64 0, .int .i64 0, .string ⟨#[]⟩, .string ⟨#[]⟩, .string ⟨#[]⟩, .int .i64 0, .int .i64 0, .slice none 0 0], .int .i64 0, .int .i64 (openErr d.data.toList)]) ∧ Below w.heap.size w w' := by
    intro w
    refine (refOpen_any d w hd).mono ?_
    rintro e w' ⟨q, hb⟩
    rcases q with ⟨q, _⟩ | ⟨_, q⟩
    · exact absurd q h
    · exact ⟨q, hb⟩
  have hne : (openErr d.data.toList == 0) = false := by rw [beq_eq_false_iff_ne]; exact h
  generalize openErr d.data.toList = er at *
  go_enter Tryz.func70, Tryz.ntmps70
  go_wp2_with (first | (go_at_call 33; go_loud (with_reducible refine (c1 _).mono ?_); rintro e w1 ⟨rfl, hb1⟩))
  go_ret3
  exact ⟨rfl, hb1.alloc hb1.size _⟩

set_option maxRecDepth 100000 in
set_option maxHeartbeats 1000000 in
theorem refRecv_sec (d t : ByteArray) (draw : Int) (w : World) (hd : d.size ≤ maxLen) (h : openErr d.data.toList = 0) (hs : ¬ Sec draw) :
    Calls Tryz.prog 70 #[.string d, .string t, .int .i64 draw] w fun e w' => e = .returned (.tuple #[.string ⟨#[]⟩, .string ⟨#[]⟩, .int .i64 3]) ∧ Below w.heap.size w w' := by
  have c1 : ∀ w, Calls Tryz.prog 33 #[.string d] w fun e w' => (∃ (a : Option Addr) (n c : Nat), e = .returned (.tuple #[.agg (stCells (heldS d.data.toList) (.slice a n c)), .int .i64 (liveL d.data.toList : Int), .int .i64 0]) ∧ w'.ownsRow w.heap.size 119 3 (.slice a n c) (heldS d.data.toList).kept.length (entsCells (heldS d.data.toList).kept)) ∧ Below w.heap.size w w' := by
    intro w
    refine (refOpen_any d w hd).mono ?_
    rintro e w' ⟨q, hb⟩
    rcases q with ⟨_, q⟩ | ⟨q, _⟩
    · exact ⟨q, hb⟩
    · exact absurd h q
  unfold stCells at c1
  have c2 : ∀ w, Calls Tryz.prog 87 #[.int .i64 draw] w fun e w' => e = .returned (.bool false) ∧ w' = w := fun w => by
    have := refIsSecret_any draw w
    rw [decide_eq_false hs] at this
    exact this
  generalize heldS d.data.toList = ss at *
  clear h hs
  go_enter Tryz.func70, Tryz.ntmps70
  go_wp2_with (first | (go_at_call 33; (with_reducible refine (c1 _).mono ?_); rintro e w1 ⟨⟨aa, nn, cc, rfl, hown⟩, hb1⟩) | (go_at_call 87; (with_reducible refine (c2 _).mono ?_); rintro e w' ⟨rfl, hw⟩; rw [hw]; clear hw w'))
  go_ret3
  exact ⟨rfl, hb1.alloc hb1.size _⟩

set_option maxRecDepth 100000 in
set_option maxHeartbeats 1000000 in
theorem refRecv_frame (d t : ByteArray) (draw : Int) (w : World) (hd : d.size ≤ maxLen) (ht : t.size ≤ maxLen) (h : openErr d.data.toList = 0) (hs : Sec draw) (hl : ¬ letOk t.data.toList) :
    Calls Tryz.prog 70 #[.string d, .string t, .int .i64 draw] w fun e w' => e = .returned (.tuple #[.string ⟨#[]⟩, .string ⟨#[]⟩, .int .i64 4]) ∧ Below w.heap.size w w' := by
  have c1 : ∀ w, Calls Tryz.prog 33 #[.string d] w fun e w' => (∃ (a : Option Addr) (n c : Nat), e = .returned (.tuple #[.agg (stCells (heldS d.data.toList) (.slice a n c)), .int .i64 (liveL d.data.toList : Int), .int .i64 0]) ∧ w'.ownsRow w.heap.size 119 3 (.slice a n c) (heldS d.data.toList).kept.length (entsCells (heldS d.data.toList).kept)) ∧ Below w.heap.size w w' := by
    intro w
    refine (refOpen_any d w hd).mono ?_
    rintro e w' ⟨q, hb⟩
    rcases q with ⟨_, q⟩ | ⟨q, _⟩
    · exact ⟨q, hb⟩
    · exact absurd h q
  unfold stCells at c1
  have c2 : ∀ w, Calls Tryz.prog 87 #[.int .i64 draw] w fun e w' => e = .returned (.bool true) ∧ w' = w := fun w => by
    have := refIsSecret_any draw w
    rw [decide_eq_true hs] at this
    exact this
  have c3 : ∀ w, Calls Tryz.prog 114 #[.string t] w fun e w' => (∃ l : LetM, e = .returned (.tuple #[.agg #[.int .i64 l.step, .int .i64 l.count, .int .i64 l.prev, .int .i64 l.pub, .string (str l.head), .string (str l.body)], .bool false])) ∧ Below w.heap.size w w' := fun w => by
    refine (refParse_any t w ht).mono ?_
    rintro e w' ⟨⟨l, he, _⟩, hb⟩
    rw [decide_eq_false hl] at he
    exact ⟨⟨l, he⟩, hb⟩
  generalize heldS d.data.toList = ss at *
  clear h hs hl
  go_enter Tryz.func70, Tryz.ntmps70
  go_upto_region 7 with (first | (go_at_call 33; (with_reducible refine (c1 _).mono ?_); rintro e w1 ⟨⟨aa, nn, cc, rfl, hown⟩, hb1⟩) | (go_at_call 87; (with_reducible refine (c2 _).mono ?_); rintro e w' ⟨rfl, hw⟩; rw [hw]; clear hw w'))
  have hW := hb1.alloc hb1.size (.cells #[.int .i64 ss.role, .int .i64 ss.step, .int .i64 ss.sent, .int .i64 ss.got, .int .i64 ss.prev, .int .i64 ss.skip, .int .i64 ss.cap, .string (str ss.root), .string (str ss.out), .string (str ss.inn), .int .i64 ss.secret, .int .i64 ss.peer, .slice aa nn cc] 63)
  generalize (w1.alloc (.cells #[.int .i64 ss.role, .int .i64 ss.step, .int .i64 ss.sent, .int .i64 ss.got, .int .i64 ss.prev, .int .i64 ss.skip, .int .i64 ss.cap, .string (str ss.root), .string (str ss.out), .string (str ss.inn), .int .i64 ss.secret, .int .i64 ss.peer, .slice aa nn cc] 63)) = wa at hW ⊢
  generalize w1.heap.size = B at *
  clear hown hb1
  go_wp2_with (first | (go_at_call 114; go_loud (with_reducible refine (c3 _).mono ?_); rintro e w2 ⟨⟨l, rfl⟩, hb2⟩))
  go_ret3
  have hx := below_tr hW hb2
  exact ⟨rfl, hx.alloc hx.size _⟩

set_option maxRecDepth 100000 in
set_option maxHeartbeats 1000000 in
theorem refRecv_far (d t : ByteArray) (draw : Int) (w : World) (hd : d.size ≤ maxLen) (ht : t.size ≤ maxLen) (h : openErr d.data.toList = 0) (hs : Sec draw) (hl : letOk t.data.toList) (hx : (heldS d.data.toList).step + 1 < (letOf t.data.toList).step) :
    Calls Tryz.prog 70 #[.string d, .string t, .int .i64 draw] w fun e w' => e = .returned (.tuple #[.string ⟨#[]⟩, .string ⟨#[]⟩, .int .i64 15]) ∧ Below w.heap.size w w' := by
  obtain ⟨k, hg⟩ := open_good _ h
  have hdl := len_list d
  have hk : d.size = k * 32 := by rw [← hdl]; exact hg.len
  have hk2 := hg.k2
  have hlv := hg.live
  obtain ⟨gl, gk⟩ := good_lawQ hg
  have hkl := hg.kept
  have hcap := hg.cap
  obtain ⟨p1, p2, p3, p4, p5, p6, p7, p8⟩ := letOk_parts hl
  have hsn := sec_nat hs
  have hsl := gl.step
  have c1 : ∀ w, Calls Tryz.prog 33 #[.string d] w fun e w' => (∃ (a : Option Addr) (n c : Nat), e = .returned (.tuple #[.agg (stCells (heldS d.data.toList) (.slice a n c)), .int .i64 (liveL d.data.toList : Int), .int .i64 0]) ∧ w'.ownsRow w.heap.size 119 3 (.slice a n c) (heldS d.data.toList).kept.length (entsCells (heldS d.data.toList).kept)) ∧ Below w.heap.size w w' := by
    intro w
    refine (refOpen_any d w hd).mono ?_
    rintro e w' ⟨q, hb⟩
    rcases q with ⟨_, q⟩ | ⟨q, _⟩
    · exact ⟨q, hb⟩
    · exact absurd h q
  unfold stCells at c1
  have c2 : ∀ w, Calls Tryz.prog 87 #[.int .i64 draw] w fun e w' => e = .returned (.bool true) ∧ w' = w := fun w => by
    have := refIsSecret_any draw w
    rw [decide_eq_true hs] at this
    exact this
  have c3 : ∀ w, Calls Tryz.prog 114 #[.string t] w fun e w' => e = .returned (.tuple #[.agg #[.int .i64 ((letOf t.data.toList).step : Int), .int .i64 ((letOf t.data.toList).count : Int), .int .i64 ((letOf t.data.toList).prev : Int), .int .i64 ((letOf t.data.toList).pub : Int), .string (str (letOf t.data.toList).head), .string (str (letOf t.data.toList).body)], .bool true]) ∧ Below w.heap.size w w' := fun w => by
    refine (refParse_any t w ht).mono ?_
    rintro e w' ⟨⟨l, he, hq⟩, hb⟩
    rw [decide_eq_true hl, hq hl] at he
    exact ⟨he, hb⟩
  generalize heldS d.data.toList = ss at *
  generalize letOf t.data.toList = l at *
  have i1 : (ss.step : Int) + 1 < (l.step : Int) := by omega
  clear h hs hl hg gl gk hdl hk hsn hx
  go_enter Tryz.func70, Tryz.ntmps70
  go_upto_region 7 with (first | (go_at_call 33; (with_reducible refine (c1 _).mono ?_); rintro e w1 ⟨⟨aa, nn, cc, rfl, hown⟩, hb1⟩) | (go_at_call 87; (with_reducible refine (c2 _).mono ?_); rintro e w' ⟨rfl, hw⟩; rw [hw]; clear hw w'))
  have hB := heap_alloc_new w1 (.cells #[.int .i64 ss.role, .int .i64 ss.step, .int .i64 ss.sent, .int .i64 ss.got, .int .i64 ss.prev, .int .i64 ss.skip, .int .i64 ss.cap, .string (str ss.root), .string (str ss.out), .string (str ss.inn), .int .i64 ss.secret, .int .i64 ss.peer, .slice aa nn cc] 63)
  have hE : EntsAt (w1.alloc (.cells #[.int .i64 ss.role, .int .i64 ss.step, .int .i64 ss.sent, .int .i64 ss.got, .int .i64 ss.prev, .int .i64 ss.skip, .int .i64 ss.cap, .string (str ss.root), .string (str ss.out), .string (str ss.inn), .int .i64 ss.secret, .int .i64 ss.peer, .slice aa nn cc] 63)) (.slice aa nn cc) ss.kept := EntsAt.of_own (hown.alloc _)
  have hW : Below w.heap.size w (w1.alloc (.cells #[.int .i64 ss.role, .int .i64 ss.step, .int .i64 ss.sent, .int .i64 ss.got, .int .i64 ss.prev, .int .i64 ss.skip, .int .i64 ss.cap, .string (str ss.root), .string (str ss.out), .string (str ss.inn), .int .i64 ss.secret, .int .i64 ss.peer, .slice aa nn cc] 63)) := hb1.alloc hb1.size _
  have hlt : w1.heap.size < (w1.alloc (.cells #[.int .i64 ss.role, .int .i64 ss.step, .int .i64 ss.sent, .int .i64 ss.got, .int .i64 ss.prev, .int .i64 ss.skip, .int .i64 ss.cap, .string (str ss.root), .string (str ss.out), .string (str ss.inn), .int .i64 ss.secret, .int .i64 ss.peer, .slice aa nn cc] 63)).heap.size := by simp
  generalize (w1.alloc (.cells #[.int .i64 ss.role, .int .i64 ss.step, .int .i64 ss.sent, .int .i64 ss.got, .int .i64 ss.prev, .int .i64 ss.skip, .int .i64 ss.cap, .string (str ss.root), .string (str ss.out), .string (str ss.inn), .int .i64 ss.secret, .int .i64 ss.peer, .slice aa nn cc] 63)) = wa at hB hE hW hlt ⊢
  generalize w1.heap.size = B at *
  have HBa := hid hB
  have HEa : Hid (EntsAt wa (.slice aa nn cc) ss.kept) := hE
  have HWa : Hid (Below w.heap.size w wa) := hW
  clear hB hE hW hown hb1 c1 c2
  go_upto_region 10 with (first | (go_at_call 114; go_loud (with_reducible refine (c3 _).mono ?_); rintro e w2 ⟨rfl, hb2⟩))
  have hsz2 := hb2.size
  have hL := heap_alloc_new w2 (.cells #[.int .i64 l.step, .int .i64 l.count, .int .i64 l.prev, .int .i64 l.pub, .string (str l.head), .string (str l.body)] 145)
  have hB : (w2.alloc (.cells #[.int .i64 l.step, .int .i64 l.count, .int .i64 l.prev, .int .i64 l.pub, .string (str l.head), .string (str l.body)] 145)).heap[B]? = some (.cells #[.int .i64 ss.role, .int .i64 ss.step, .int .i64 ss.sent, .int .i64 ss.got, .int .i64 ss.prev, .int .i64 ss.skip, .int .i64 ss.cap, .string (str ss.root), .string (str ss.out), .string (str ss.inn), .int .i64 ss.secret, .int .i64 ss.peer, .slice aa nn cc] 63) := (Below.heap_alloc _ _ _ (by omega)).trans ((hb2.block B hlt).trans HBa.out)
  have hE : EntsAt (w2.alloc (.cells #[.int .i64 l.step, .int .i64 l.count, .int .i64 l.prev, .int .i64 l.pub, .string (str l.head), .string (str l.body)] 145)) (.slice aa nn cc) ss.kept := (HEa.out.next hb2).next ((Below.refl _ _).alloc (Nat.le_refl _) _)
  have hW : Below w.heap.size w (w2.alloc (.cells #[.int .i64 l.step, .int .i64 l.count, .int .i64 l.prev, .int .i64 l.pub, .string (str l.head), .string (str l.body)] 145)) := (below_tr HWa.out hb2).alloc (below_tr HWa.out hb2).size _
  have hltL : w2.heap.size < (w2.alloc (.cells #[.int .i64 l.step, .int .i64 l.count, .int .i64 l.prev, .int .i64 l.pub, .string (str l.head), .string (str l.body)] 145)).heap.size := by simp
  have hltB : B < w2.heap.size := by omega
  generalize (w2.alloc (.cells #[.int .i64 l.step, .int .i64 l.count, .int .i64 l.prev, .int .i64 l.pub, .string (str l.head), .string (str l.body)] 145)) = wb at hB hL hE hW hltL ⊢
  generalize w2.heap.size = L at *
  have HB := hid hB
  have HL := hid hL
  have HE : Hid (EntsAt wb (.slice aa nn cc) ss.kept) := hE
  have HW : Hid (Below w.heap.size w wb) := hW
  obtain ⟨k0, k1, k2, k3, k4, k5, k6, k7, k8, k9, k10, k11, k12⟩ := cells13 hB
  obtain ⟨q0, q1, q2, q3, q4, q5⟩ := cells6 hL
  clear hB hL hE hW hb2 hsz2 HBa HEa HWa c3 hlt
  go_wp2
  go_ret3
  exact ⟨rfl, HW.out⟩

set_option maxRecDepth 100000 in
set_option maxHeartbeats 1000000 in
theorem refRecv_same (d t : ByteArray) (draw : Int) (w : World) (hd : d.size ≤ maxLen) (ht : t.size ≤ maxLen) (h : openErr d.data.toList = 0) (hs : Sec draw) (hl : letOk t.data.toList) (hx : ¬ (heldS d.data.toList).step + 1 < (letOf t.data.toList).step ∧ (letOf t.data.toList).step % 2 = (heldS d.data.toList).step % 2) :
    Calls Tryz.prog 70 #[.string d, .string t, .int .i64 draw] w fun e w' => e = .returned (.tuple #[.string ⟨#[]⟩, .string ⟨#[]⟩, .int .i64 15]) ∧ Below w.heap.size w w' := by
  obtain ⟨k, hg⟩ := open_good _ h
  have hdl := len_list d
  have hk : d.size = k * 32 := by rw [← hdl]; exact hg.len
  have hk2 := hg.k2
  have hlv := hg.live
  obtain ⟨gl, gk⟩ := good_lawQ hg
  have hkl := hg.kept
  have hcap := hg.cap
  obtain ⟨p1, p2, p3, p4, p5, p6, p7, p8⟩ := letOk_parts hl
  have hsn := sec_nat hs
  have hsl := gl.step
  have c1 : ∀ w, Calls Tryz.prog 33 #[.string d] w fun e w' => (∃ (a : Option Addr) (n c : Nat), e = .returned (.tuple #[.agg (stCells (heldS d.data.toList) (.slice a n c)), .int .i64 (liveL d.data.toList : Int), .int .i64 0]) ∧ w'.ownsRow w.heap.size 119 3 (.slice a n c) (heldS d.data.toList).kept.length (entsCells (heldS d.data.toList).kept)) ∧ Below w.heap.size w w' := by
    intro w
    refine (refOpen_any d w hd).mono ?_
    rintro e w' ⟨q, hb⟩
    rcases q with ⟨_, q⟩ | ⟨q, _⟩
    · exact ⟨q, hb⟩
    · exact absurd h q
  unfold stCells at c1
  have c2 : ∀ w, Calls Tryz.prog 87 #[.int .i64 draw] w fun e w' => e = .returned (.bool true) ∧ w' = w := fun w => by
    have := refIsSecret_any draw w
    rw [decide_eq_true hs] at this
    exact this
  have c3 : ∀ w, Calls Tryz.prog 114 #[.string t] w fun e w' => e = .returned (.tuple #[.agg #[.int .i64 ((letOf t.data.toList).step : Int), .int .i64 ((letOf t.data.toList).count : Int), .int .i64 ((letOf t.data.toList).prev : Int), .int .i64 ((letOf t.data.toList).pub : Int), .string (str (letOf t.data.toList).head), .string (str (letOf t.data.toList).body)], .bool true]) ∧ Below w.heap.size w w' := fun w => by
    refine (refParse_any t w ht).mono ?_
    rintro e w' ⟨⟨l, he, hq⟩, hb⟩
    rw [decide_eq_true hl, hq hl] at he
    exact ⟨he, hb⟩
  generalize heldS d.data.toList = ss at *
  generalize letOf t.data.toList = l at *
  have i1 : ¬ (ss.step : Int) + 1 < (l.step : Int) := by omega
  have i2 : (((l.step : Int) + (ss.step : Int)) % 2 == 0) = true := by rw [beq_iff_eq]; omega
  clear h hs hl hg gl gk hdl hk hsn hx
  go_enter Tryz.func70, Tryz.ntmps70
  go_upto_region 7 with (first | (go_at_call 33; (with_reducible refine (c1 _).mono ?_); rintro e w1 ⟨⟨aa, nn, cc, rfl, hown⟩, hb1⟩) | (go_at_call 87; (with_reducible refine (c2 _).mono ?_); rintro e w' ⟨rfl, hw⟩; rw [hw]; clear hw w'))
  have hB := heap_alloc_new w1 (.cells #[.int .i64 ss.role, .int .i64 ss.step, .int .i64 ss.sent, .int .i64 ss.got, .int .i64 ss.prev, .int .i64 ss.skip, .int .i64 ss.cap, .string (str ss.root), .string (str ss.out), .string (str ss.inn), .int .i64 ss.secret, .int .i64 ss.peer, .slice aa nn cc] 63)
  have hE : EntsAt (w1.alloc (.cells #[.int .i64 ss.role, .int .i64 ss.step, .int .i64 ss.sent, .int .i64 ss.got, .int .i64 ss.prev, .int .i64 ss.skip, .int .i64 ss.cap, .string (str ss.root), .string (str ss.out), .string (str ss.inn), .int .i64 ss.secret, .int .i64 ss.peer, .slice aa nn cc] 63)) (.slice aa nn cc) ss.kept := EntsAt.of_own (hown.alloc _)
  have hW : Below w.heap.size w (w1.alloc (.cells #[.int .i64 ss.role, .int .i64 ss.step, .int .i64 ss.sent, .int .i64 ss.got, .int .i64 ss.prev, .int .i64 ss.skip, .int .i64 ss.cap, .string (str ss.root), .string (str ss.out), .string (str ss.inn), .int .i64 ss.secret, .int .i64 ss.peer, .slice aa nn cc] 63)) := hb1.alloc hb1.size _
  have hlt : w1.heap.size < (w1.alloc (.cells #[.int .i64 ss.role, .int .i64 ss.step, .int .i64 ss.sent, .int .i64 ss.got, .int .i64 ss.prev, .int .i64 ss.skip, .int .i64 ss.cap, .string (str ss.root), .string (str ss.out), .string (str ss.inn), .int .i64 ss.secret, .int .i64 ss.peer, .slice aa nn cc] 63)).heap.size := by simp
  generalize (w1.alloc (.cells #[.int .i64 ss.role, .int .i64 ss.step, .int .i64 ss.sent, .int .i64 ss.got, .int .i64 ss.prev, .int .i64 ss.skip, .int .i64 ss.cap, .string (str ss.root), .string (str ss.out), .string (str ss.inn), .int .i64 ss.secret, .int .i64 ss.peer, .slice aa nn cc] 63)) = wa at hB hE hW hlt ⊢
  generalize w1.heap.size = B at *
  have HBa := hid hB
  have HEa : Hid (EntsAt wa (.slice aa nn cc) ss.kept) := hE
  have HWa : Hid (Below w.heap.size w wa) := hW
  clear hB hE hW hown hb1 c1 c2
  go_upto_region 10 with (first | (go_at_call 114; go_loud (with_reducible refine (c3 _).mono ?_); rintro e w2 ⟨rfl, hb2⟩))
  have hsz2 := hb2.size
  have hL := heap_alloc_new w2 (.cells #[.int .i64 l.step, .int .i64 l.count, .int .i64 l.prev, .int .i64 l.pub, .string (str l.head), .string (str l.body)] 145)
  have hB : (w2.alloc (.cells #[.int .i64 l.step, .int .i64 l.count, .int .i64 l.prev, .int .i64 l.pub, .string (str l.head), .string (str l.body)] 145)).heap[B]? = some (.cells #[.int .i64 ss.role, .int .i64 ss.step, .int .i64 ss.sent, .int .i64 ss.got, .int .i64 ss.prev, .int .i64 ss.skip, .int .i64 ss.cap, .string (str ss.root), .string (str ss.out), .string (str ss.inn), .int .i64 ss.secret, .int .i64 ss.peer, .slice aa nn cc] 63) := (Below.heap_alloc _ _ _ (by omega)).trans ((hb2.block B hlt).trans HBa.out)
  have hE : EntsAt (w2.alloc (.cells #[.int .i64 l.step, .int .i64 l.count, .int .i64 l.prev, .int .i64 l.pub, .string (str l.head), .string (str l.body)] 145)) (.slice aa nn cc) ss.kept := (HEa.out.next hb2).next ((Below.refl _ _).alloc (Nat.le_refl _) _)
  have hW : Below w.heap.size w (w2.alloc (.cells #[.int .i64 l.step, .int .i64 l.count, .int .i64 l.prev, .int .i64 l.pub, .string (str l.head), .string (str l.body)] 145)) := (below_tr HWa.out hb2).alloc (below_tr HWa.out hb2).size _
  have hltL : w2.heap.size < (w2.alloc (.cells #[.int .i64 l.step, .int .i64 l.count, .int .i64 l.prev, .int .i64 l.pub, .string (str l.head), .string (str l.body)] 145)).heap.size := by simp
  have hltB : B < w2.heap.size := by omega
  generalize (w2.alloc (.cells #[.int .i64 l.step, .int .i64 l.count, .int .i64 l.prev, .int .i64 l.pub, .string (str l.head), .string (str l.body)] 145)) = wb at hB hL hE hW hltL ⊢
  generalize w2.heap.size = L at *
  have HB := hid hB
  have HL := hid hL
  have HE : Hid (EntsAt wb (.slice aa nn cc) ss.kept) := hE
  have HW : Hid (Below w.heap.size w wb) := hW
  obtain ⟨k0, k1, k2, k3, k4, k5, k6, k7, k8, k9, k10, k11, k12⟩ := cells13 hB
  obtain ⟨q0, q1, q2, q3, q4, q5⟩ := cells6 hL
  clear hB hL hE hW hb2 hsz2 HBa HEa HWa c3 hlt
  go_wp2
  go_ret3
  exact ⟨rfl, HW.out⟩

set_option maxRecDepth 100000 in
set_option maxHeartbeats 1000000 in
theorem refRecv_ref (d t : ByteArray) (draw : Int) (w : World) (hd : d.size ≤ maxLen) (ht : t.size ≤ maxLen) (h : openErr d.data.toList = 0) (hs : Sec draw) (hl : letOk t.data.toList) (hx : ¬ ((heldS d.data.toList).step + 1 < (letOf t.data.toList).step ∨ (letOf t.data.toList).step % 2 = (heldS d.data.toList).step % 2)) (hr : (keyR (heldS d.data.toList) (letOf t.data.toList) draw.toNat).1 ≠ 0) :
    Calls Tryz.prog 70 #[.string d, .string t, .int .i64 draw] w fun e w' => e = .returned (.tuple #[.string ⟨#[]⟩, .string ⟨#[]⟩, .int .i64 (keyR (heldS d.data.toList) (letOf t.data.toList) draw.toNat).1]) ∧ Below w.heap.size w w' := by
  obtain ⟨k, hg⟩ := open_good _ h
  have hdl := len_list d
  have hk : d.size = k * 32 := by rw [← hdl]; exact hg.len
  have hk2 := hg.k2
  have hlv := hg.live
  obtain ⟨gl, gk⟩ := good_lawQ hg
  have hkl := hg.kept
  have hcap := hg.cap
  obtain ⟨p1, p2, p3, p4, p5, p6, p7, p8⟩ := letOk_parts hl
  have hsn := sec_nat hs
  have hsl := gl.step
  have c1 : ∀ w, Calls Tryz.prog 33 #[.string d] w fun e w' => (∃ (a : Option Addr) (n c : Nat), e = .returned (.tuple #[.agg (stCells (heldS d.data.toList) (.slice a n c)), .int .i64 (liveL d.data.toList : Int), .int .i64 0]) ∧ w'.ownsRow w.heap.size 119 3 (.slice a n c) (heldS d.data.toList).kept.length (entsCells (heldS d.data.toList).kept)) ∧ Below w.heap.size w w' := by
    intro w
    refine (refOpen_any d w hd).mono ?_
    rintro e w' ⟨q, hb⟩
    rcases q with ⟨_, q⟩ | ⟨q, _⟩
    · exact ⟨q, hb⟩
    · exact absurd h q
  unfold stCells at c1
  have c2 : ∀ w, Calls Tryz.prog 87 #[.int .i64 draw] w fun e w' => e = .returned (.bool true) ∧ w' = w := fun w => by
    have := refIsSecret_any draw w
    rw [decide_eq_true hs] at this
    exact this
  have c3 : ∀ w, Calls Tryz.prog 114 #[.string t] w fun e w' => e = .returned (.tuple #[.agg #[.int .i64 ((letOf t.data.toList).step : Int), .int .i64 ((letOf t.data.toList).count : Int), .int .i64 ((letOf t.data.toList).prev : Int), .int .i64 ((letOf t.data.toList).pub : Int), .string (str (letOf t.data.toList).head), .string (str (letOf t.data.toList).body)], .bool true]) ∧ Below w.heap.size w w' := fun w => by
    refine (refParse_any t w ht).mono ?_
    rintro e w' ⟨⟨l, he, hq⟩, hb⟩
    rw [decide_eq_true hl, hq hl] at he
    exact ⟨he, hb⟩
  have cT : ∀ (a : Option Addr) (n c : Nat) (w : World), EntsAt w (.slice a n c) (heldS d.data.toList).kept → Calls Tryz.prog 115 #[.agg (stCells (heldS d.data.toList) (.slice a n c)), .agg #[.int .i64 ((letOf t.data.toList).step : Int), .int .i64 ((letOf t.data.toList).count : Int), .int .i64 ((letOf t.data.toList).prev : Int), .int .i64 ((letOf t.data.toList).pub : Int), .string (str (letOf t.data.toList).head), .string (str (letOf t.data.toList).body)], .int .i64 draw] w fun e w' => TakeRef (refTakeR (heldS d.data.toList) (letOf t.data.toList) draw.toNat) w.heap.size w' e ∧ Below w.heap.size w w' := fun a n c w hE => by
    have hse := gl.sec
    have hgo := gl.got
    unfold Sec at hse hs
    unfold Pub at p5
    have := refTaken_any (heldS d.data.toList) a n c (letOf t.data.toList) draw.toNat w (by omega) (by omega) (by omega) (by omega) (by omega) (by omega) gk.inn gk.root (by omega) (by omega) (by omega) (by omega) gl.keys.srt gk.kept hE
    rw [hsn] at this
    exact this
  have heq := refTake_eq gl gk hkl (letOf t.data.toList) draw.toNat p1 p2 p3 p4 p5 (by rw [hsn]; exact hs) hx
  obtain ⟨er, her⟩ : ∃ er, er = (keyR (heldS d.data.toList) (letOf t.data.toList) draw.toNat).1 := ⟨_, rfl⟩
  rw [← her] at hr ⊢
  have cQ : ∀ (a : Option Addr) (n c : Nat) (w : World), EntsAt w (.slice a n c) (heldS d.data.toList).kept → Calls Tryz.prog 115 #[.agg (stCells (heldS d.data.toList) (.slice a n c)), .agg #[.int .i64 ((letOf t.data.toList).step : Int), .int .i64 ((letOf t.data.toList).count : Int), .int .i64 ((letOf t.data.toList).prev : Int), .int .i64 ((letOf t.data.toList).pub : Int), .string (str (letOf t.data.toList).head), .string (str (letOf t.data.toList).body)], .int .i64 draw] w fun e w' => (∃ (ky : ByteArray) (x : StM) (aL : Option Addr) (nL cL : Nat), e = .returned (.tuple #[.string ky, .agg #[.int .i64 x.role, .int .i64 x.step, .int .i64 x.sent, .int .i64 x.got, .int .i64 x.prev, .int .i64 x.skip, .int .i64 x.cap, .string (str x.root), .string (str x.out), .string (str x.inn), .int .i64 x.secret, .int .i64 x.peer, .slice aL nL cL], .int .i64 er])) ∧ Below w.heap.size w w' := fun a n c w hE => by
    refine (cT a n c w hE).mono ?_
    rintro e w' ⟨⟨ky, x, aL, nL, cL, he, _⟩, hb⟩
    refine ⟨⟨ky, x, aL, nL, cL, ?_⟩, hb⟩
    rw [he, heq.1, her]
    rfl
  unfold stCells at cQ
  have hne : (er == 0) = false := by rw [beq_eq_false_iff_ne]; exact hr
  clear heq her hr cT
  generalize heldS d.data.toList = ss at *
  generalize letOf t.data.toList = l at *
  have i1 : ¬ (ss.step : Int) + 1 < (l.step : Int) := by omega
  have i2 : (((l.step : Int) + (ss.step : Int)) % 2 == 0) = false := by rw [beq_eq_false_iff_ne]; omega
  clear h hs hl hg gl gk hdl hk hsn hx
  go_enter Tryz.func70, Tryz.ntmps70
  go_upto_region 7 with (first | (go_at_call 33; (with_reducible refine (c1 _).mono ?_); rintro e w1 ⟨⟨aa, nn, cc, rfl, hown⟩, hb1⟩) | (go_at_call 87; (with_reducible refine (c2 _).mono ?_); rintro e w' ⟨rfl, hw⟩; rw [hw]; clear hw w'))
  have hB := heap_alloc_new w1 (.cells #[.int .i64 ss.role, .int .i64 ss.step, .int .i64 ss.sent, .int .i64 ss.got, .int .i64 ss.prev, .int .i64 ss.skip, .int .i64 ss.cap, .string (str ss.root), .string (str ss.out), .string (str ss.inn), .int .i64 ss.secret, .int .i64 ss.peer, .slice aa nn cc] 63)
  have hE : EntsAt (w1.alloc (.cells #[.int .i64 ss.role, .int .i64 ss.step, .int .i64 ss.sent, .int .i64 ss.got, .int .i64 ss.prev, .int .i64 ss.skip, .int .i64 ss.cap, .string (str ss.root), .string (str ss.out), .string (str ss.inn), .int .i64 ss.secret, .int .i64 ss.peer, .slice aa nn cc] 63)) (.slice aa nn cc) ss.kept := EntsAt.of_own (hown.alloc _)
  have hW : Below w.heap.size w (w1.alloc (.cells #[.int .i64 ss.role, .int .i64 ss.step, .int .i64 ss.sent, .int .i64 ss.got, .int .i64 ss.prev, .int .i64 ss.skip, .int .i64 ss.cap, .string (str ss.root), .string (str ss.out), .string (str ss.inn), .int .i64 ss.secret, .int .i64 ss.peer, .slice aa nn cc] 63)) := hb1.alloc hb1.size _
  have hlt : w1.heap.size < (w1.alloc (.cells #[.int .i64 ss.role, .int .i64 ss.step, .int .i64 ss.sent, .int .i64 ss.got, .int .i64 ss.prev, .int .i64 ss.skip, .int .i64 ss.cap, .string (str ss.root), .string (str ss.out), .string (str ss.inn), .int .i64 ss.secret, .int .i64 ss.peer, .slice aa nn cc] 63)).heap.size := by simp
  generalize (w1.alloc (.cells #[.int .i64 ss.role, .int .i64 ss.step, .int .i64 ss.sent, .int .i64 ss.got, .int .i64 ss.prev, .int .i64 ss.skip, .int .i64 ss.cap, .string (str ss.root), .string (str ss.out), .string (str ss.inn), .int .i64 ss.secret, .int .i64 ss.peer, .slice aa nn cc] 63)) = wa at hB hE hW hlt ⊢
  generalize w1.heap.size = B at *
  have HBa := hid hB
  have HEa : Hid (EntsAt wa (.slice aa nn cc) ss.kept) := hE
  have HWa : Hid (Below w.heap.size w wa) := hW
  clear hB hE hW hown hb1 c1 c2
  go_upto_region 10 with (first | (go_at_call 114; go_loud (with_reducible refine (c3 _).mono ?_); rintro e w2 ⟨rfl, hb2⟩))
  have hsz2 := hb2.size
  have hL := heap_alloc_new w2 (.cells #[.int .i64 l.step, .int .i64 l.count, .int .i64 l.prev, .int .i64 l.pub, .string (str l.head), .string (str l.body)] 145)
  have hB : (w2.alloc (.cells #[.int .i64 l.step, .int .i64 l.count, .int .i64 l.prev, .int .i64 l.pub, .string (str l.head), .string (str l.body)] 145)).heap[B]? = some (.cells #[.int .i64 ss.role, .int .i64 ss.step, .int .i64 ss.sent, .int .i64 ss.got, .int .i64 ss.prev, .int .i64 ss.skip, .int .i64 ss.cap, .string (str ss.root), .string (str ss.out), .string (str ss.inn), .int .i64 ss.secret, .int .i64 ss.peer, .slice aa nn cc] 63) := (Below.heap_alloc _ _ _ (by omega)).trans ((hb2.block B hlt).trans HBa.out)
  have hE : EntsAt (w2.alloc (.cells #[.int .i64 l.step, .int .i64 l.count, .int .i64 l.prev, .int .i64 l.pub, .string (str l.head), .string (str l.body)] 145)) (.slice aa nn cc) ss.kept := (HEa.out.next hb2).next ((Below.refl _ _).alloc (Nat.le_refl _) _)
  have hW : Below w.heap.size w (w2.alloc (.cells #[.int .i64 l.step, .int .i64 l.count, .int .i64 l.prev, .int .i64 l.pub, .string (str l.head), .string (str l.body)] 145)) := (below_tr HWa.out hb2).alloc (below_tr HWa.out hb2).size _
  have hltL : w2.heap.size < (w2.alloc (.cells #[.int .i64 l.step, .int .i64 l.count, .int .i64 l.prev, .int .i64 l.pub, .string (str l.head), .string (str l.body)] 145)).heap.size := by simp
  have hltB : B < w2.heap.size := by omega
  generalize (w2.alloc (.cells #[.int .i64 l.step, .int .i64 l.count, .int .i64 l.prev, .int .i64 l.pub, .string (str l.head), .string (str l.body)] 145)) = wb at hB hL hE hW hltL ⊢
  generalize w2.heap.size = L at *
  have HB := hid hB
  have HL := hid hL
  have HE : Hid (EntsAt wb (.slice aa nn cc) ss.kept) := hE
  have HW : Hid (Below w.heap.size w wb) := hW
  obtain ⟨k0, k1, k2, k3, k4, k5, k6, k7, k8, k9, k10, k11, k12⟩ := cells13 hB
  obtain ⟨q0, q1, q2, q3, q4, q5⟩ := cells6 hL
  clear hB hL hE hW hb2 hsz2 HBa HEa HWa c3 hlt
  go_upto_region 13 with (first | (go_at_call 115; go_loud (with_reducible refine (cQ _ _ _ _ HE.out).mono ?_); rintro e w3 ⟨⟨ky, x, aL, nL, cL, rfl⟩, hb3⟩))
  have hW3 := below_tr HW.out hb3
  have hW4 := hW3.alloc hW3.size (.cells #[.int .i64 x.role, .int .i64 x.step, .int .i64 x.sent, .int .i64 x.got, .int .i64 x.prev, .int .i64 x.skip, .int .i64 x.cap, .string (str x.root), .string (str x.out), .string (str x.inn), .int .i64 x.secret, .int .i64 x.peer, .slice aL nL cL] 63)
  generalize (w3.alloc (.cells #[.int .i64 x.role, .int .i64 x.step, .int .i64 x.sent, .int .i64 x.got, .int .i64 x.prev, .int .i64 x.skip, .int .i64 x.cap, .string (str x.root), .string (str x.out), .string (str x.inn), .int .i64 x.secret, .int .i64 x.peer, .slice aL nL cL] 63)) = wz at hW4 ⊢
  generalize w3.heap.size = B3 at *
  have HZ : Hid (Below w.heap.size w wz) := hW4
  clear hW3 hW4 hb3
  go_wp2
  go_ret3
  exact ⟨rfl, HZ.out⟩

set_option maxRecDepth 100000 in
set_option maxHeartbeats 1000000 in
theorem refRecv_no (d t : ByteArray) (draw : Int) (w : World) (hd : d.size ≤ maxLen) (ht : t.size ≤ maxLen) (h : openErr d.data.toList = 0) (hs : Sec draw) (hl : letOk t.data.toList) (hx : ¬ ((heldS d.data.toList).step + 1 < (letOf t.data.toList).step ∨ (letOf t.data.toList).step % 2 = (heldS d.data.toList).step % 2)) (hr : (keyR (heldS d.data.toList) (letOf t.data.toList) draw.toNat).1 = 0) (ho : ¬ opensL (keyR (heldS d.data.toList) (letOf t.data.toList) draw.toNat).2.1 (letOf t.data.toList).head (letOf t.data.toList).body) :
    Calls Tryz.prog 70 #[.string d, .string t, .int .i64 draw] w fun e w' => e = .returned (.tuple #[.string ⟨#[]⟩, .string ⟨#[]⟩, .int .i64 5]) ∧ Below w.heap.size w w' := by
  obtain ⟨k, hg⟩ := open_good _ h
  have hdl := len_list d
  have hk : d.size = k * 32 := by rw [← hdl]; exact hg.len
  have hk2 := hg.k2
  have hlv := hg.live
  obtain ⟨gl, gk⟩ := good_lawQ hg
  have hkl := hg.kept
  have hcap := hg.cap
  obtain ⟨p1, p2, p3, p4, p5, p6, p7, p8⟩ := letOk_parts hl
  have hsn := sec_nat hs
  have hsl := gl.step
  have c1 : ∀ w, Calls Tryz.prog 33 #[.string d] w fun e w' => (∃ (a : Option Addr) (n c : Nat), e = .returned (.tuple #[.agg (stCells (heldS d.data.toList) (.slice a n c)), .int .i64 (liveL d.data.toList : Int), .int .i64 0]) ∧ w'.ownsRow w.heap.size 119 3 (.slice a n c) (heldS d.data.toList).kept.length (entsCells (heldS d.data.toList).kept)) ∧ Below w.heap.size w w' := by
    intro w
    refine (refOpen_any d w hd).mono ?_
    rintro e w' ⟨q, hb⟩
    rcases q with ⟨_, q⟩ | ⟨q, _⟩
    · exact ⟨q, hb⟩
    · exact absurd h q
  unfold stCells at c1
  have c2 : ∀ w, Calls Tryz.prog 87 #[.int .i64 draw] w fun e w' => e = .returned (.bool true) ∧ w' = w := fun w => by
    have := refIsSecret_any draw w
    rw [decide_eq_true hs] at this
    exact this
  have c3 : ∀ w, Calls Tryz.prog 114 #[.string t] w fun e w' => e = .returned (.tuple #[.agg #[.int .i64 ((letOf t.data.toList).step : Int), .int .i64 ((letOf t.data.toList).count : Int), .int .i64 ((letOf t.data.toList).prev : Int), .int .i64 ((letOf t.data.toList).pub : Int), .string (str (letOf t.data.toList).head), .string (str (letOf t.data.toList).body)], .bool true]) ∧ Below w.heap.size w w' := fun w => by
    refine (refParse_any t w ht).mono ?_
    rintro e w' ⟨⟨l, he, hq⟩, hb⟩
    rw [decide_eq_true hl, hq hl] at he
    exact ⟨he, hb⟩
  have cT : ∀ (a : Option Addr) (n c : Nat) (w : World), EntsAt w (.slice a n c) (heldS d.data.toList).kept → Calls Tryz.prog 115 #[.agg (stCells (heldS d.data.toList) (.slice a n c)), .agg #[.int .i64 ((letOf t.data.toList).step : Int), .int .i64 ((letOf t.data.toList).count : Int), .int .i64 ((letOf t.data.toList).prev : Int), .int .i64 ((letOf t.data.toList).pub : Int), .string (str (letOf t.data.toList).head), .string (str (letOf t.data.toList).body)], .int .i64 draw] w fun e w' => TakeRef (refTakeR (heldS d.data.toList) (letOf t.data.toList) draw.toNat) w.heap.size w' e ∧ Below w.heap.size w w' := fun a n c w hE => by
    have hse := gl.sec
    have hgo := gl.got
    unfold Sec at hse hs
    unfold Pub at p5
    have := refTaken_any (heldS d.data.toList) a n c (letOf t.data.toList) draw.toNat w (by omega) (by omega) (by omega) (by omega) (by omega) (by omega) gk.inn gk.root (by omega) (by omega) (by omega) (by omega) gl.keys.srt gk.kept hE
    rw [hsn] at this
    exact this
  have heq := refTake_eq gl gk hkl (letOf t.data.toList) draw.toNat p1 p2 p3 p4 p5 (by rw [hsn]; exact hs) hx
  have heq2 := heq.2 hr
  obtain ⟨kl, kk, k8, kc, kn⟩ := keyR_law gl gk (by omega) (letOf t.data.toList) draw.toNat p1 p2 p3 p4 p5 (by rw [hsn]; exact hs) hr
  obtain ⟨xl, xk, xn⟩ := cap_law kl kk
  have hcx : (capS (keyR (heldS d.data.toList) (letOf t.data.toList) draw.toNat).2.2).cap = (keyR (heldS d.data.toList) (letOf t.data.toList) draw.toNat).2.2.cap := rfl
  have hok2 : StOk (capS (keyR (heldS d.data.toList) (letOf t.data.toList) draw.toNat).2.2) := stOk_of xl xk (by omega)
  have cQ : ∀ (a : Option Addr) (n c : Nat) (w : World), EntsAt w (.slice a n c) (heldS d.data.toList).kept → Calls Tryz.prog 115 #[.agg (stCells (heldS d.data.toList) (.slice a n c)), .agg #[.int .i64 ((letOf t.data.toList).step : Int), .int .i64 ((letOf t.data.toList).count : Int), .int .i64 ((letOf t.data.toList).prev : Int), .int .i64 ((letOf t.data.toList).pub : Int), .string (str (letOf t.data.toList).head), .string (str (letOf t.data.toList).body)], .int .i64 draw] w fun e w' => (∃ (aL : Option Addr) (nL cL : Nat), e = .returned (.tuple #[.string (str (keyR (heldS d.data.toList) (letOf t.data.toList) draw.toNat).2.1), .agg (stCells (capS (keyR (heldS d.data.toList) (letOf t.data.toList) draw.toNat).2.2) (.slice aL nL cL)), .int .i64 0]) ∧ EntsAt w' (.slice aL nL cL) (capS (keyR (heldS d.data.toList) (letOf t.data.toList) draw.toNat).2.2).kept) ∧ Below w.heap.size w w' := fun a n c w hE => by
    refine (cT a n c w hE).mono ?_
    rintro e w' ⟨⟨ky, x, aL, nL, cL, he, hq⟩, hb⟩
    have h0 : (refTakeR (heldS d.data.toList) (letOf t.data.toList) draw.toNat).1 = 0 := by rw [heq.1]; exact hr
    obtain ⟨hky, hxx, hox⟩ := hq h0
    refine ⟨⟨aL, nL, cL, ?_, ?_⟩, hb⟩
    · rw [he, hky, hxx, h0, heq2.1, heq2.2]
    · have := EntsAt.of_own hox
      rw [hxx, heq2.2] at this
      exact this
  have hhd : (str (letOf t.data.toList).head).size = 7 := by rw [str_size]; exact p6
  have hbd1 : 8 ≤ (str (letOf t.data.toList).body).size := by rw [str_size]; exact p7
  have hbd2 : (str (letOf t.data.toList).body).size ≤ 48 := by rw [str_size]; exact p8
  have hky8 : (str (keyR (heldS d.data.toList) (letOf t.data.toList) draw.toNat).2.1).size = 8 := by rw [str_size]; exact k8
  have cu := fun w => refUnseal_no (str (keyR (heldS d.data.toList) (letOf t.data.toList) draw.toNat).2.1) (str (letOf t.data.toList).head) (str (letOf t.data.toList).body) w hky8 hhd hbd1 hbd2 (by rw [str_toList, str_toList, str_toList]; exact ho)
  unfold stCells at cQ
  generalize capS (keyR (heldS d.data.toList) (letOf t.data.toList) draw.toNat).2.2 = x at *
  generalize str (keyR (heldS d.data.toList) (letOf t.data.toList) draw.toNat).2.1 = ky at *
  clear heq heq2 cT hr kl kk k8 kc xl xk hok2 hhd hbd1 hbd2 hky8 hcx kn xn ho
  generalize heldS d.data.toList = ss at *
  generalize letOf t.data.toList = l at *
  have i1 : ¬ (ss.step : Int) + 1 < (l.step : Int) := by omega
  have i2 : (((l.step : Int) + (ss.step : Int)) % 2 == 0) = false := by rw [beq_eq_false_iff_ne]; omega
  clear h hs hl hg gl gk hdl hsn hx p1 p3 p4 p5 p6 p7 p8
  go_enter Tryz.func70, Tryz.ntmps70
  go_upto_region 7 with (first | (go_at_call 33; (with_reducible refine (c1 _).mono ?_); rintro e w1 ⟨⟨aa, nn, cc, rfl, hown⟩, hb1⟩) | (go_at_call 87; (with_reducible refine (c2 _).mono ?_); rintro e w' ⟨rfl, hw⟩; rw [hw]; clear hw w'))
  have hB := heap_alloc_new w1 (.cells #[.int .i64 ss.role, .int .i64 ss.step, .int .i64 ss.sent, .int .i64 ss.got, .int .i64 ss.prev, .int .i64 ss.skip, .int .i64 ss.cap, .string (str ss.root), .string (str ss.out), .string (str ss.inn), .int .i64 ss.secret, .int .i64 ss.peer, .slice aa nn cc] 63)
  have hE : EntsAt (w1.alloc (.cells #[.int .i64 ss.role, .int .i64 ss.step, .int .i64 ss.sent, .int .i64 ss.got, .int .i64 ss.prev, .int .i64 ss.skip, .int .i64 ss.cap, .string (str ss.root), .string (str ss.out), .string (str ss.inn), .int .i64 ss.secret, .int .i64 ss.peer, .slice aa nn cc] 63)) (.slice aa nn cc) ss.kept := EntsAt.of_own (hown.alloc _)
  have hW : Below w.heap.size w (w1.alloc (.cells #[.int .i64 ss.role, .int .i64 ss.step, .int .i64 ss.sent, .int .i64 ss.got, .int .i64 ss.prev, .int .i64 ss.skip, .int .i64 ss.cap, .string (str ss.root), .string (str ss.out), .string (str ss.inn), .int .i64 ss.secret, .int .i64 ss.peer, .slice aa nn cc] 63)) := hb1.alloc hb1.size _
  have hlt : w1.heap.size < (w1.alloc (.cells #[.int .i64 ss.role, .int .i64 ss.step, .int .i64 ss.sent, .int .i64 ss.got, .int .i64 ss.prev, .int .i64 ss.skip, .int .i64 ss.cap, .string (str ss.root), .string (str ss.out), .string (str ss.inn), .int .i64 ss.secret, .int .i64 ss.peer, .slice aa nn cc] 63)).heap.size := by simp
  generalize (w1.alloc (.cells #[.int .i64 ss.role, .int .i64 ss.step, .int .i64 ss.sent, .int .i64 ss.got, .int .i64 ss.prev, .int .i64 ss.skip, .int .i64 ss.cap, .string (str ss.root), .string (str ss.out), .string (str ss.inn), .int .i64 ss.secret, .int .i64 ss.peer, .slice aa nn cc] 63)) = wa at hB hE hW hlt ⊢
  generalize w1.heap.size = B at *
  have HBa := hid hB
  have HEa : Hid (EntsAt wa (.slice aa nn cc) ss.kept) := hE
  have HWa : Hid (Below w.heap.size w wa) := hW
  clear hB hE hW hown hb1 c1 c2
  go_upto_region 10 with (first | (go_at_call 114; go_loud (with_reducible refine (c3 _).mono ?_); rintro e w2 ⟨rfl, hb2⟩))
  have hsz2 := hb2.size
  have hL := heap_alloc_new w2 (.cells #[.int .i64 l.step, .int .i64 l.count, .int .i64 l.prev, .int .i64 l.pub, .string (str l.head), .string (str l.body)] 145)
  have hB : (w2.alloc (.cells #[.int .i64 l.step, .int .i64 l.count, .int .i64 l.prev, .int .i64 l.pub, .string (str l.head), .string (str l.body)] 145)).heap[B]? = some (.cells #[.int .i64 ss.role, .int .i64 ss.step, .int .i64 ss.sent, .int .i64 ss.got, .int .i64 ss.prev, .int .i64 ss.skip, .int .i64 ss.cap, .string (str ss.root), .string (str ss.out), .string (str ss.inn), .int .i64 ss.secret, .int .i64 ss.peer, .slice aa nn cc] 63) := (Below.heap_alloc _ _ _ (by omega)).trans ((hb2.block B hlt).trans HBa.out)
  have hE : EntsAt (w2.alloc (.cells #[.int .i64 l.step, .int .i64 l.count, .int .i64 l.prev, .int .i64 l.pub, .string (str l.head), .string (str l.body)] 145)) (.slice aa nn cc) ss.kept := (HEa.out.next hb2).next ((Below.refl _ _).alloc (Nat.le_refl _) _)
  have hW : Below w.heap.size w (w2.alloc (.cells #[.int .i64 l.step, .int .i64 l.count, .int .i64 l.prev, .int .i64 l.pub, .string (str l.head), .string (str l.body)] 145)) := (below_tr HWa.out hb2).alloc (below_tr HWa.out hb2).size _
  have hltL : w2.heap.size < (w2.alloc (.cells #[.int .i64 l.step, .int .i64 l.count, .int .i64 l.prev, .int .i64 l.pub, .string (str l.head), .string (str l.body)] 145)).heap.size := by simp
  have hltB : B < w2.heap.size := by omega
  generalize (w2.alloc (.cells #[.int .i64 l.step, .int .i64 l.count, .int .i64 l.prev, .int .i64 l.pub, .string (str l.head), .string (str l.body)] 145)) = wb at hB hL hE hW hltL ⊢
  generalize w2.heap.size = L at *
  have HB := hid hB
  have HL := hid hL
  have HE : Hid (EntsAt wb (.slice aa nn cc) ss.kept) := hE
  have HW : Hid (Below w.heap.size w wb) := hW
  obtain ⟨k0, k1, k2, k3, k4, k5, k6, k7, k8, k9, k10, k11, k12⟩ := cells13 hB
  obtain ⟨q0, q1, q2, q3, q4, q5⟩ := cells6 hL
  clear hB hL hE hW hb2 hsz2 HBa HEa HWa c3 hlt
  go_upto_region 13 with (first | (go_at_call 115; go_loud (with_reducible refine (cQ _ _ _ _ HE.out).mono ?_); rintro e w3 ⟨⟨aL, nL, cL, rfl, hE3⟩, hb3⟩))
  have hsz3 := hb3.size
  have hX := heap_alloc_new w3 (.cells #[.int .i64 x.role, .int .i64 x.step, .int .i64 x.sent, .int .i64 x.got, .int .i64 x.prev, .int .i64 x.skip, .int .i64 x.cap, .string (str x.root), .string (str x.out), .string (str x.inn), .int .i64 x.secret, .int .i64 x.peer, .slice aL nL cL] 63)
  have hL4 : (w3.alloc (.cells #[.int .i64 x.role, .int .i64 x.step, .int .i64 x.sent, .int .i64 x.got, .int .i64 x.prev, .int .i64 x.skip, .int .i64 x.cap, .string (str x.root), .string (str x.out), .string (str x.inn), .int .i64 x.secret, .int .i64 x.peer, .slice aL nL cL] 63)).heap[L]? = some (.cells #[.int .i64 l.step, .int .i64 l.count, .int .i64 l.prev, .int .i64 l.pub, .string (str l.head), .string (str l.body)] 145) := (Below.heap_alloc _ _ _ (by omega)).trans ((hb3.block L hltL).trans HL.out)
  have hE4 : EntsAt (w3.alloc (.cells #[.int .i64 x.role, .int .i64 x.step, .int .i64 x.sent, .int .i64 x.got, .int .i64 x.prev, .int .i64 x.skip, .int .i64 x.cap, .string (str x.root), .string (str x.out), .string (str x.inn), .int .i64 x.secret, .int .i64 x.peer, .slice aL nL cL] 63)) (.slice aL nL cL) x.kept := hE3.next ((Below.refl _ _).alloc (Nat.le_refl _) _)
  have hW4 : Below w.heap.size w (w3.alloc (.cells #[.int .i64 x.role, .int .i64 x.step, .int .i64 x.sent, .int .i64 x.got, .int .i64 x.prev, .int .i64 x.skip, .int .i64 x.cap, .string (str x.root), .string (str x.out), .string (str x.inn), .int .i64 x.secret, .int .i64 x.peer, .slice aL nL cL] 63)) := (below_tr HW.out hb3).alloc (below_tr HW.out hb3).size _
  have hlt4 : w3.heap.size < (w3.alloc (.cells #[.int .i64 x.role, .int .i64 x.step, .int .i64 x.sent, .int .i64 x.got, .int .i64 x.prev, .int .i64 x.skip, .int .i64 x.cap, .string (str x.root), .string (str x.out), .string (str x.inn), .int .i64 x.secret, .int .i64 x.peer, .slice aL nL cL] 63)).heap.size := by simp
  generalize (w3.alloc (.cells #[.int .i64 x.role, .int .i64 x.step, .int .i64 x.sent, .int .i64 x.got, .int .i64 x.prev, .int .i64 x.skip, .int .i64 x.cap, .string (str x.root), .string (str x.out), .string (str x.inn), .int .i64 x.secret, .int .i64 x.peer, .slice aL nL cL] 63)) = wz at hX hL4 hE4 hW4 hlt4 ⊢
  generalize w3.heap.size = B3 at *
  have HX := hid hX
  have HE4 : Hid (EntsAt wz (.slice aL nL cL) x.kept) := hE4
  have HZ : Hid (Below w.heap.size w wz) := hW4
  clear k0 k1 k2 k3 k4 k5 k6 k7 k8 k9 k10 k11 k12 q0 q1 q2 q3 q4 q5
  have z4 : wz.cell? ⟨L, 4, none⟩ = some (.string (str l.head)) := cell_of_row wz _ 4 _ _ _ hL4
  have z5 : wz.cell? ⟨L, 5, none⟩ = some (.string (str l.body)) := cell_of_row wz _ 5 _ _ _ hL4
  clear hX hL4 hE4 hW4 hE3 hb3 HB HL HE HW cQ
  go_wp2_with (first | (go_at_call 48; go_loud (with_reducible refine (cu _).mono ?_); rintro e w5 ⟨rfl, hb5⟩))
  go_ret3
  exact ⟨rfl, below_tr HZ.out hb5⟩

set_option maxRecDepth 100000 in
set_option maxHeartbeats 1000000 in
theorem refRecv_yes (d t : ByteArray) (draw : Int) (w : World) (hd : d.size ≤ maxLen) (ht : t.size ≤ maxLen) (h : openErr d.data.toList = 0) (hs : Sec draw) (hl : letOk t.data.toList) (hx : ¬ ((heldS d.data.toList).step + 1 < (letOf t.data.toList).step ∨ (letOf t.data.toList).step % 2 = (heldS d.data.toList).step % 2)) (hr : (keyR (heldS d.data.toList) (letOf t.data.toList) draw.toNat).1 = 0) (ho : opensL (keyR (heldS d.data.toList) (letOf t.data.toList) draw.toNat).2.1 (letOf t.data.toList).head (letOf t.data.toList).body) :
    Calls Tryz.prog 70 #[.string d, .string t, .int .i64 draw] w fun e w' => e = .returned (.tuple #[.string (str (veil (keyR (heldS d.data.toList) (letOf t.data.toList) draw.toNat).2.1 ((letOf t.data.toList).body.take ((letOf t.data.toList).body.length - 8)))), .string (str (packL (capS (keyR (heldS d.data.toList) (letOf t.data.toList) draw.toNat).2.2) (1 - liveL d.data.toList) d.data.toList.length)), .int .i64 0]) ∧ Below w.heap.size w w' := by
  obtain ⟨k, hg⟩ := open_good _ h
  have hdl := len_list d
  have hk : d.size = k * 32 := by rw [← hdl]; exact hg.len
  have hk2 := hg.k2
  have hlv := hg.live
  obtain ⟨gl, gk⟩ := good_lawQ hg
  have hkl := hg.kept
  have hcap := hg.cap
  obtain ⟨p1, p2, p3, p4, p5, p6, p7, p8⟩ := letOk_parts hl
  have hsn := sec_nat hs
  have hsl := gl.step
  have c1 : ∀ w, Calls Tryz.prog 33 #[.string d] w fun e w' => (∃ (a : Option Addr) (n c : Nat), e = .returned (.tuple #[.agg (stCells (heldS d.data.toList) (.slice a n c)), .int .i64 (liveL d.data.toList : Int), .int .i64 0]) ∧ w'.ownsRow w.heap.size 119 3 (.slice a n c) (heldS d.data.toList).kept.length (entsCells (heldS d.data.toList).kept)) ∧ Below w.heap.size w w' := by
    intro w
    refine (refOpen_any d w hd).mono ?_
    rintro e w' ⟨q, hb⟩
    rcases q with ⟨_, q⟩ | ⟨q, _⟩
    · exact ⟨q, hb⟩
    · exact absurd h q
  unfold stCells at c1
  have c2 : ∀ w, Calls Tryz.prog 87 #[.int .i64 draw] w fun e w' => e = .returned (.bool true) ∧ w' = w := fun w => by
    have := refIsSecret_any draw w
    rw [decide_eq_true hs] at this
    exact this
  have c3 : ∀ w, Calls Tryz.prog 114 #[.string t] w fun e w' => e = .returned (.tuple #[.agg #[.int .i64 ((letOf t.data.toList).step : Int), .int .i64 ((letOf t.data.toList).count : Int), .int .i64 ((letOf t.data.toList).prev : Int), .int .i64 ((letOf t.data.toList).pub : Int), .string (str (letOf t.data.toList).head), .string (str (letOf t.data.toList).body)], .bool true]) ∧ Below w.heap.size w w' := fun w => by
    refine (refParse_any t w ht).mono ?_
    rintro e w' ⟨⟨l, he, hq⟩, hb⟩
    rw [decide_eq_true hl, hq hl] at he
    exact ⟨he, hb⟩
  have cT : ∀ (a : Option Addr) (n c : Nat) (w : World), EntsAt w (.slice a n c) (heldS d.data.toList).kept → Calls Tryz.prog 115 #[.agg (stCells (heldS d.data.toList) (.slice a n c)), .agg #[.int .i64 ((letOf t.data.toList).step : Int), .int .i64 ((letOf t.data.toList).count : Int), .int .i64 ((letOf t.data.toList).prev : Int), .int .i64 ((letOf t.data.toList).pub : Int), .string (str (letOf t.data.toList).head), .string (str (letOf t.data.toList).body)], .int .i64 draw] w fun e w' => TakeRef (refTakeR (heldS d.data.toList) (letOf t.data.toList) draw.toNat) w.heap.size w' e ∧ Below w.heap.size w w' := fun a n c w hE => by
    have hse := gl.sec
    have hgo := gl.got
    unfold Sec at hse hs
    unfold Pub at p5
    have := refTaken_any (heldS d.data.toList) a n c (letOf t.data.toList) draw.toNat w (by omega) (by omega) (by omega) (by omega) (by omega) (by omega) gk.inn gk.root (by omega) (by omega) (by omega) (by omega) gl.keys.srt gk.kept hE
    rw [hsn] at this
    exact this
  have heq := refTake_eq gl gk hkl (letOf t.data.toList) draw.toNat p1 p2 p3 p4 p5 (by rw [hsn]; exact hs) hx
  have heq2 := heq.2 hr
  obtain ⟨kl, kk, k8, kc, kn⟩ := keyR_law gl gk (by omega) (letOf t.data.toList) draw.toNat p1 p2 p3 p4 p5 (by rw [hsn]; exact hs) hr
  obtain ⟨xl, xk, xn⟩ := cap_law kl kk
  have hcx : (capS (keyR (heldS d.data.toList) (letOf t.data.toList) draw.toNat).2.2).cap = (keyR (heldS d.data.toList) (letOf t.data.toList) draw.toNat).2.2.cap := rfl
  have hok2 : StOk (capS (keyR (heldS d.data.toList) (letOf t.data.toList) draw.toNat).2.2) := stOk_of xl xk (by omega)
  have cQ : ∀ (a : Option Addr) (n c : Nat) (w : World), EntsAt w (.slice a n c) (heldS d.data.toList).kept → Calls Tryz.prog 115 #[.agg (stCells (heldS d.data.toList) (.slice a n c)), .agg #[.int .i64 ((letOf t.data.toList).step : Int), .int .i64 ((letOf t.data.toList).count : Int), .int .i64 ((letOf t.data.toList).prev : Int), .int .i64 ((letOf t.data.toList).pub : Int), .string (str (letOf t.data.toList).head), .string (str (letOf t.data.toList).body)], .int .i64 draw] w fun e w' => (∃ (aL : Option Addr) (nL cL : Nat), e = .returned (.tuple #[.string (str (keyR (heldS d.data.toList) (letOf t.data.toList) draw.toNat).2.1), .agg (stCells (capS (keyR (heldS d.data.toList) (letOf t.data.toList) draw.toNat).2.2) (.slice aL nL cL)), .int .i64 0]) ∧ EntsAt w' (.slice aL nL cL) (capS (keyR (heldS d.data.toList) (letOf t.data.toList) draw.toNat).2.2).kept) ∧ Below w.heap.size w w' := fun a n c w hE => by
    refine (cT a n c w hE).mono ?_
    rintro e w' ⟨⟨ky, x, aL, nL, cL, he, hq⟩, hb⟩
    have h0 : (refTakeR (heldS d.data.toList) (letOf t.data.toList) draw.toNat).1 = 0 := by rw [heq.1]; exact hr
    obtain ⟨hky, hxx, hox⟩ := hq h0
    refine ⟨⟨aL, nL, cL, ?_, ?_⟩, hb⟩
    · rw [he, hky, hxx, h0, heq2.1, heq2.2]
    · have := EntsAt.of_own hox
      rw [hxx, heq2.2] at this
      exact this
  have hhd : (str (letOf t.data.toList).head).size = 7 := by rw [str_size]; exact p6
  have hbd1 : 8 ≤ (str (letOf t.data.toList).body).size := by rw [str_size]; exact p7
  have hbd2 : (str (letOf t.data.toList).body).size ≤ 48 := by rw [str_size]; exact p8
  have hky8 : (str (keyR (heldS d.data.toList) (letOf t.data.toList) draw.toNat).2.1).size = 8 := by rw [str_size]; exact k8
  have cu := fun w => refUnseal_yes (str (keyR (heldS d.data.toList) (letOf t.data.toList) draw.toNat).2.1) (str (letOf t.data.toList).head) (str (letOf t.data.toList).body) w hky8 hhd hbd1 hbd2 (by rw [str_toList, str_toList, str_toList]; exact ho)
  rw [str_toList, str_toList, str_size] at cu
  have cp := fun a n c w hv => pack_any (capS (keyR (heldS d.data.toList) (letOf t.data.toList) draw.toNat).2.2) (.slice a n c) (1 - liveL d.data.toList) (k * 32) w hok2 hv (by omega) (by omega)
  have clv : ((1 - liveL d.data.toList : Nat) : Int) = 1 - (liveL d.data.toList : Int) := by omega
  have ck : ((k * 32 : Nat) : Int) = (k : Int) * 32 := by omega
  rw [clv, ck] at cp
  unfold stCells at cp
  rw [hdl, hk]
  generalize (str (veil (keyR (heldS d.data.toList) (letOf t.data.toList) draw.toNat).2.1 ((letOf t.data.toList).body.take ((letOf t.data.toList).body.length - 8)))) = vt at *
  generalize (str (packL (capS (keyR (heldS d.data.toList) (letOf t.data.toList) draw.toNat).2.2) (1 - liveL d.data.toList) (k * 32))) = pt at *
  clear clv ck
  generalize liveL d.data.toList = lv at *
  unfold stCells at cQ
  generalize capS (keyR (heldS d.data.toList) (letOf t.data.toList) draw.toNat).2.2 = x at *
  generalize str (keyR (heldS d.data.toList) (letOf t.data.toList) draw.toNat).2.1 = ky at *
  clear heq heq2 cT hr kl kk k8 kc xl xk hok2 hhd hbd1 hbd2 hky8 hcx kn xn ho
  generalize heldS d.data.toList = ss at *
  generalize letOf t.data.toList = l at *
  have i1 : ¬ (ss.step : Int) + 1 < (l.step : Int) := by omega
  have i2 : (((l.step : Int) + (ss.step : Int)) % 2 == 0) = false := by rw [beq_eq_false_iff_ne]; omega
  clear h hs hl hg gl gk hdl hsn hx p1 p3 p4 p5 p6 p7 p8
  go_enter Tryz.func70, Tryz.ntmps70
  go_upto_region 7 with (first | (go_at_call 33; (with_reducible refine (c1 _).mono ?_); rintro e w1 ⟨⟨aa, nn, cc, rfl, hown⟩, hb1⟩) | (go_at_call 87; (with_reducible refine (c2 _).mono ?_); rintro e w' ⟨rfl, hw⟩; rw [hw]; clear hw w'))
  have hB := heap_alloc_new w1 (.cells #[.int .i64 ss.role, .int .i64 ss.step, .int .i64 ss.sent, .int .i64 ss.got, .int .i64 ss.prev, .int .i64 ss.skip, .int .i64 ss.cap, .string (str ss.root), .string (str ss.out), .string (str ss.inn), .int .i64 ss.secret, .int .i64 ss.peer, .slice aa nn cc] 63)
  have hE : EntsAt (w1.alloc (.cells #[.int .i64 ss.role, .int .i64 ss.step, .int .i64 ss.sent, .int .i64 ss.got, .int .i64 ss.prev, .int .i64 ss.skip, .int .i64 ss.cap, .string (str ss.root), .string (str ss.out), .string (str ss.inn), .int .i64 ss.secret, .int .i64 ss.peer, .slice aa nn cc] 63)) (.slice aa nn cc) ss.kept := EntsAt.of_own (hown.alloc _)
  have hW : Below w.heap.size w (w1.alloc (.cells #[.int .i64 ss.role, .int .i64 ss.step, .int .i64 ss.sent, .int .i64 ss.got, .int .i64 ss.prev, .int .i64 ss.skip, .int .i64 ss.cap, .string (str ss.root), .string (str ss.out), .string (str ss.inn), .int .i64 ss.secret, .int .i64 ss.peer, .slice aa nn cc] 63)) := hb1.alloc hb1.size _
  have hlt : w1.heap.size < (w1.alloc (.cells #[.int .i64 ss.role, .int .i64 ss.step, .int .i64 ss.sent, .int .i64 ss.got, .int .i64 ss.prev, .int .i64 ss.skip, .int .i64 ss.cap, .string (str ss.root), .string (str ss.out), .string (str ss.inn), .int .i64 ss.secret, .int .i64 ss.peer, .slice aa nn cc] 63)).heap.size := by simp
  generalize (w1.alloc (.cells #[.int .i64 ss.role, .int .i64 ss.step, .int .i64 ss.sent, .int .i64 ss.got, .int .i64 ss.prev, .int .i64 ss.skip, .int .i64 ss.cap, .string (str ss.root), .string (str ss.out), .string (str ss.inn), .int .i64 ss.secret, .int .i64 ss.peer, .slice aa nn cc] 63)) = wa at hB hE hW hlt ⊢
  generalize w1.heap.size = B at *
  have HBa := hid hB
  have HEa : Hid (EntsAt wa (.slice aa nn cc) ss.kept) := hE
  have HWa : Hid (Below w.heap.size w wa) := hW
  clear hB hE hW hown hb1 c1 c2
  go_upto_region 10 with (first | (go_at_call 114; go_loud (with_reducible refine (c3 _).mono ?_); rintro e w2 ⟨rfl, hb2⟩))
  have hsz2 := hb2.size
  have hL := heap_alloc_new w2 (.cells #[.int .i64 l.step, .int .i64 l.count, .int .i64 l.prev, .int .i64 l.pub, .string (str l.head), .string (str l.body)] 145)
  have hB : (w2.alloc (.cells #[.int .i64 l.step, .int .i64 l.count, .int .i64 l.prev, .int .i64 l.pub, .string (str l.head), .string (str l.body)] 145)).heap[B]? = some (.cells #[.int .i64 ss.role, .int .i64 ss.step, .int .i64 ss.sent, .int .i64 ss.got, .int .i64 ss.prev, .int .i64 ss.skip, .int .i64 ss.cap, .string (str ss.root), .string (str ss.out), .string (str ss.inn), .int .i64 ss.secret, .int .i64 ss.peer, .slice aa nn cc] 63) := (Below.heap_alloc _ _ _ (by omega)).trans ((hb2.block B hlt).trans HBa.out)
  have hE : EntsAt (w2.alloc (.cells #[.int .i64 l.step, .int .i64 l.count, .int .i64 l.prev, .int .i64 l.pub, .string (str l.head), .string (str l.body)] 145)) (.slice aa nn cc) ss.kept := (HEa.out.next hb2).next ((Below.refl _ _).alloc (Nat.le_refl _) _)
  have hW : Below w.heap.size w (w2.alloc (.cells #[.int .i64 l.step, .int .i64 l.count, .int .i64 l.prev, .int .i64 l.pub, .string (str l.head), .string (str l.body)] 145)) := (below_tr HWa.out hb2).alloc (below_tr HWa.out hb2).size _
  have hltL : w2.heap.size < (w2.alloc (.cells #[.int .i64 l.step, .int .i64 l.count, .int .i64 l.prev, .int .i64 l.pub, .string (str l.head), .string (str l.body)] 145)).heap.size := by simp
  have hltB : B < w2.heap.size := by omega
  generalize (w2.alloc (.cells #[.int .i64 l.step, .int .i64 l.count, .int .i64 l.prev, .int .i64 l.pub, .string (str l.head), .string (str l.body)] 145)) = wb at hB hL hE hW hltL ⊢
  generalize w2.heap.size = L at *
  have HB := hid hB
  have HL := hid hL
  have HE : Hid (EntsAt wb (.slice aa nn cc) ss.kept) := hE
  have HW : Hid (Below w.heap.size w wb) := hW
  obtain ⟨k0, k1, k2, k3, k4, k5, k6, k7, k8, k9, k10, k11, k12⟩ := cells13 hB
  obtain ⟨q0, q1, q2, q3, q4, q5⟩ := cells6 hL
  clear hB hL hE hW hb2 hsz2 HBa HEa HWa c3 hlt
  go_upto_region 13 with (first | (go_at_call 115; go_loud (with_reducible refine (cQ _ _ _ _ HE.out).mono ?_); rintro e w3 ⟨⟨aL, nL, cL, rfl, hE3⟩, hb3⟩))
  have hsz3 := hb3.size
  have hX := heap_alloc_new w3 (.cells #[.int .i64 x.role, .int .i64 x.step, .int .i64 x.sent, .int .i64 x.got, .int .i64 x.prev, .int .i64 x.skip, .int .i64 x.cap, .string (str x.root), .string (str x.out), .string (str x.inn), .int .i64 x.secret, .int .i64 x.peer, .slice aL nL cL] 63)
  have hL4 : (w3.alloc (.cells #[.int .i64 x.role, .int .i64 x.step, .int .i64 x.sent, .int .i64 x.got, .int .i64 x.prev, .int .i64 x.skip, .int .i64 x.cap, .string (str x.root), .string (str x.out), .string (str x.inn), .int .i64 x.secret, .int .i64 x.peer, .slice aL nL cL] 63)).heap[L]? = some (.cells #[.int .i64 l.step, .int .i64 l.count, .int .i64 l.prev, .int .i64 l.pub, .string (str l.head), .string (str l.body)] 145) := (Below.heap_alloc _ _ _ (by omega)).trans ((hb3.block L hltL).trans HL.out)
  have hE4 : EntsAt (w3.alloc (.cells #[.int .i64 x.role, .int .i64 x.step, .int .i64 x.sent, .int .i64 x.got, .int .i64 x.prev, .int .i64 x.skip, .int .i64 x.cap, .string (str x.root), .string (str x.out), .string (str x.inn), .int .i64 x.secret, .int .i64 x.peer, .slice aL nL cL] 63)) (.slice aL nL cL) x.kept := hE3.next ((Below.refl _ _).alloc (Nat.le_refl _) _)
  have hW4 : Below w.heap.size w (w3.alloc (.cells #[.int .i64 x.role, .int .i64 x.step, .int .i64 x.sent, .int .i64 x.got, .int .i64 x.prev, .int .i64 x.skip, .int .i64 x.cap, .string (str x.root), .string (str x.out), .string (str x.inn), .int .i64 x.secret, .int .i64 x.peer, .slice aL nL cL] 63)) := (below_tr HW.out hb3).alloc (below_tr HW.out hb3).size _
  have hlt4 : w3.heap.size < (w3.alloc (.cells #[.int .i64 x.role, .int .i64 x.step, .int .i64 x.sent, .int .i64 x.got, .int .i64 x.prev, .int .i64 x.skip, .int .i64 x.cap, .string (str x.root), .string (str x.out), .string (str x.inn), .int .i64 x.secret, .int .i64 x.peer, .slice aL nL cL] 63)).heap.size := by simp
  generalize (w3.alloc (.cells #[.int .i64 x.role, .int .i64 x.step, .int .i64 x.sent, .int .i64 x.got, .int .i64 x.prev, .int .i64 x.skip, .int .i64 x.cap, .string (str x.root), .string (str x.out), .string (str x.inn), .int .i64 x.secret, .int .i64 x.peer, .slice aL nL cL] 63)) = wz at hX hL4 hE4 hW4 hlt4 ⊢
  generalize w3.heap.size = B3 at *
  have HX := hid hX
  have HE4 : Hid (EntsAt wz (.slice aL nL cL) x.kept) := hE4
  have HZ : Hid (Below w.heap.size w wz) := hW4
  clear k0 k1 k2 k3 k4 k5 k6 k7 k8 k9 k10 k11 k12 q0 q1 q2 q3 q4 q5
  have z4 : wz.cell? ⟨L, 4, none⟩ = some (.string (str l.head)) := cell_of_row wz _ 4 _ _ _ hL4
  have z5 : wz.cell? ⟨L, 5, none⟩ = some (.string (str l.body)) := cell_of_row wz _ 5 _ _ _ hL4
  clear hX hL4 hE4 hW4 hE3 hb3 HB HL HE HW cQ
  go_upto_region 18 with (first | (go_at_call 48; go_loud (with_reducible refine (cu _).mono ?_); rintro e w5 ⟨rfl, hb5⟩))
  have hX5 := (hb5.block B3 hlt4).trans HX.out
  have HE5 : Hid (EntsAt w5 (.slice aL nL cL) x.kept) := HE4.out.next hb5
  have HZ5 : Hid (Below w.heap.size w w5) := below_tr HZ.out hb5
  obtain ⟨u0, u1, u2, u3, u4, u5, u6, u7, u8, u9, u10, u11, u12⟩ := cells13 hX5
  clear hX5 hb5 HX HE4 HZ z4 z5 cu
  go_wp2_with (first | (go_at_call 98; go_loud (with_reducible refine (cp _ _ _ _ HE5.out).mono ?_); rintro e w6 ⟨rfl, hb6⟩))
  go_ret3
  exact ⟨rfl, below_tr HZ5.out hb6⟩
theorem refReceive_any (d t : ByteArray) (draw : Int) (w : World) (hd : d.size ≤ maxLen) (ht : t.size ≤ maxLen) :
    Calls Tryz.prog 70 #[.string d, .string t, .int .i64 draw] w fun e w' => e = .returned (.tuple #[.string (str (recvTxt d.data.toList t.data.toList draw)), .string (str (recvTo d.data.toList t.data.toList draw)), .int .i64 (recvErr d.data.toList t.data.toList draw)]) ∧ Below w.heap.size w w' := by
  have hbad : ∀ er, recvErr d.data.toList t.data.toList draw = er → er ≠ 0 → (Calls Tryz.prog 70 #[.string d, .string t, .int .i64 draw] w fun e w' => e = .returned (.tuple #[.string ⟨#[]⟩, .string ⟨#[]⟩, .int .i64 er]) ∧ Below w.heap.size w w') → Calls Tryz.prog 70 #[.string d, .string t, .int .i64 draw] w fun e w' => e = .returned (.tuple #[.string (str (recvTxt d.data.toList t.data.toList draw)), .string (str (recvTo d.data.toList t.data.toList draw)), .int .i64 (recvErr d.data.toList t.data.toList draw)]) ∧ Below w.heap.size w w' := by
    intro er he hne c
    have h1 : recvTxt d.data.toList t.data.toList draw = [] := by rw [recvTxt, if_neg (by rw [he]; exact hne)]
    have h2 : recvTo d.data.toList t.data.toList draw = [] := by rw [recvTo, if_neg (by rw [he]; exact hne)]
    rw [h1, h2, he]
    exact c
  by_cases h : openErr d.data.toList = 0
  · by_cases hs : Sec draw
    · by_cases hl : letOk t.data.toList
      · have e0 : recvErr d.data.toList t.data.toList draw = (recvR (heldS d.data.toList) (letOf t.data.toList) draw.toNat).1 := by rw [recvErr, if_pos h, if_pos hs, if_pos hl]
        by_cases hx : (heldS d.data.toList).step + 1 < (letOf t.data.toList).step ∨ (letOf t.data.toList).step % 2 = (heldS d.data.toList).step % 2
        · have k15 : (keyR (heldS d.data.toList) (letOf t.data.toList) draw.toNat).1 = 15 := by rw [keyR, if_pos hx]
          have r15 : (recvR (heldS d.data.toList) (letOf t.data.toList) draw.toNat).1 = 15 := by rw [recvR, if_neg (by rw [k15]; decide), k15]
          refine hbad 15 (by rw [e0, r15]) (by decide) ?_
          by_cases hy : (heldS d.data.toList).step + 1 < (letOf t.data.toList).step
          · exact refRecv_far d t draw w hd ht h hs hl hy
          · exact refRecv_same d t draw w hd ht h hs hl ⟨hy, by rcases hx with q | q; exact absurd q hy; exact q⟩
        · by_cases hr : (keyR (heldS d.data.toList) (letOf t.data.toList) draw.toNat).1 = 0
          · by_cases ho : opensL (keyR (heldS d.data.toList) (letOf t.data.toList) draw.toNat).2.1 (letOf t.data.toList).head (letOf t.data.toList).body
            · have er : recvR (heldS d.data.toList) (letOf t.data.toList) draw.toNat = (0, veil (keyR (heldS d.data.toList) (letOf t.data.toList) draw.toNat).2.1 ((letOf t.data.toList).body.take ((letOf t.data.toList).body.length - 8)), capS (keyR (heldS d.data.toList) (letOf t.data.toList) draw.toNat).2.2) := by rw [recvR, if_pos hr, if_pos ho]
              have e1 : recvErr d.data.toList t.data.toList draw = 0 := by rw [e0, er]
              have h1 : recvTxt d.data.toList t.data.toList draw = veil (keyR (heldS d.data.toList) (letOf t.data.toList) draw.toNat).2.1 ((letOf t.data.toList).body.take ((letOf t.data.toList).body.length - 8)) := by rw [recvTxt, if_pos e1, er]
              have h2 : recvTo d.data.toList t.data.toList draw = packL (capS (keyR (heldS d.data.toList) (letOf t.data.toList) draw.toNat).2.2) (1 - liveL d.data.toList) d.data.toList.length := by rw [recvTo, if_pos e1, recvS, er]
              rw [h1, h2, e1]
              exact refRecv_yes d t draw w hd ht h hs hl hx hr ho
            · have er : (recvR (heldS d.data.toList) (letOf t.data.toList) draw.toNat).1 = 5 := by rw [recvR, if_pos hr, if_neg ho]
              exact hbad 5 (by rw [e0, er]) (by decide) (refRecv_no d t draw w hd ht h hs hl hx hr ho)
          · have er : (recvR (heldS d.data.toList) (letOf t.data.toList) draw.toNat).1 = (keyR (heldS d.data.toList) (letOf t.data.toList) draw.toNat).1 := by rw [recvR, if_neg hr]
            exact hbad _ (by rw [e0, er]) hr (refRecv_ref d t draw w hd ht h hs hl hx hr)
      · exact hbad 4 (by rw [recvErr, if_pos h, if_pos hs, if_neg hl]) (by decide) (refRecv_frame d t draw w hd ht h hs hl)
    · exact hbad 3 (by rw [recvErr, if_pos h, if_neg hs]) (by decide) (refRecv_sec d t draw w hd h hs)
  · exact hbad _ (by rw [recvErr, if_neg h]) h (refRecv_bad d t draw w hd h)
end Go.Proofs.YtabpkohcimiceabGreat
