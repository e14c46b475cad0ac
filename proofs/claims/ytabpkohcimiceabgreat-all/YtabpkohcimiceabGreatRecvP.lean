import Derived.Test.YtabpkohcimiceabGreatRecvC
import Derived.Test.YtabpkohcimiceabGreatOpen
import Derived.Test.YtabpkohcimiceabGreatLaw
import Derived.Test.YtabpkohcimiceabGreatReadL
import Derived.WalkKit
import Derived.WalkSpells
import Derived.WalkLawsBesides
import Derived.OwnWalk
import Derived.Laws.Rows
namespace Go.Proofs.YtabpkohcimiceabGreat
open Go.RowKit
set_option linter.unusedVariables false
set_option linter.unusedSimpArgs false

/-! ### pawl.Receive, pawlref.Receive: their answers -/
def recvErr (d t : List UInt8) (draw : Int) : Int := if openErr d = 0 then (if Sec draw then (if letOk t then (recvR (heldS d) (letOf t) draw.toNat).1 else 4) else 3) else openErr d
def recvS (d t : List UInt8) (draw : Int) : StM := (recvR (heldS d) (letOf t) draw.toNat).2.2
def recvTxt (d t : List UInt8) (draw : Int) : List UInt8 := if recvErr d t draw = 0 then (recvR (heldS d) (letOf t) draw.toNat).2.1 else []
def recvTo (d t : List UInt8) (draw : Int) : List UInt8 := if recvErr d t draw = 0 then packL (recvS d t draw) (1 - liveL d) d.length else []
def recvPlan (d t : List UInt8) (draw : Int) : List UInt8 := if recvErr d t draw = 0 then encL (rplR d (packL (recvS d t draw) (1 - liveL d) d.length) (heldS d).cap (liveL d)) else []
theorem recv_bd (s : StM) (l : LetM) (draw : Nat) : 0 ≤ (recvR s l draw).1 ∧ (recvR s l draw).1 ≤ 17 := by
  have hk : 0 ≤ (keyR s l draw).1 ∧ (keyR s l draw).1 ≤ 17 := by
    rw [keyR_take]
    split
    · simp
    · have : 0 ≤ (takeR s l draw).1 ∧ (takeR s l draw).1 ≤ 17 := by
        rw [takeR]
        repeat' split
        all_goals simp
      split <;> simpa using this
  rw [recvR]
  split
  · split <;> simp
  · exact hk
theorem recvErr_bd (d t : List UInt8) (draw : Int) : 0 ≤ recvErr d t draw ∧ recvErr d t draw ≤ 17 := by
  have := open_pos d
  have := recv_bd (heldS d) (letOf t) draw.toNat
  rw [recvErr]; repeat' split
  all_goals omega
/-- The box behind a letter that was taken. -/
theorem recv_law {s : StM} (h : LawQ s) (hk : Keyed s) (hn : s.kept.length ≤ 100) (l : LetM) (draw : Nat) (hl1 : 1 ≤ l.step) (hl2 : l.step ≤ 29) (hc : l.count ≤ 49) (hp : l.prev ≤ 50) (hpub : Pub (l.pub : Int)) (hd : Sec (draw : Int)) (hok : (recvR s l draw).1 = 0) :
    LawQ (recvR s l draw).2.2 ∧ Keyed (recvR s l draw).2.2 ∧ (recvR s l draw).2.2.cap = s.cap ∧ (recvR s l draw).2.2.kept.length ≤ (recvR s l draw).2.2.cap := by
  rw [recvR] at hok ⊢
  by_cases h0 : (keyR s l draw).1 = 0
  · rw [if_pos h0] at hok ⊢
    obtain ⟨a, b, c, e, f⟩ := keyR_law h hk hn l draw hl1 hl2 hc hp hpub hd h0
    by_cases ho : opensL (keyR s l draw).2.1 l.head l.body
    · rw [if_pos ho]
      obtain ⟨x, y, z⟩ := cap_law a b
      exact ⟨x, y, e, z⟩
    · rw [if_neg ho] at hok; simp at hok
  · rw [if_neg h0] at hok
    exact absurd hok h0
theorem letOk_parts {t : List UInt8} (h : letOk t) : 1 ≤ (letOf t).step ∧ (letOf t).step ≤ 29 ∧ (letOf t).count ≤ 49 ∧ (letOf t).prev ≤ 50 ∧ Pub ((letOf t).pub : Int) ∧ (letOf t).head.length = 7 ∧ 8 ≤ (letOf t).body.length ∧ (letOf t).body.length ≤ 48 := by
  obtain ⟨⟨a, b⟩, c1, c2, c3, c4, c5⟩ := h
  refine ⟨c1, c2, c3, c4, c5, ?_, ?_, ?_⟩
  · show (t.take 7).length = 7
    rw [List.length_take]; omega
  · show 8 ≤ (t.drop 7).length
    rw [List.length_drop]; omega
  · show (t.drop 7).length ≤ 48
    rw [List.length_drop]; omega
theorem recvErr_ok {d t : List UInt8} {draw : Int} (h : recvErr d t draw = 0) : openErr d = 0 ∧ Sec draw ∧ letOk t ∧ (recvR (heldS d) (letOf t) draw.toNat).1 = 0 := by
  have hp := open_pos d
  rw [recvErr] at h
  split at h
  · next h0 =>
    split at h
    · next h1 =>
      split at h
      · next h2 => exact ⟨h0, h1, h2, h⟩
      · omega
    · omega
  · next h0 => exact absurd h h0
theorem sec_nat {x : Int} (h : Sec x) : ((x.toNat : Nat) : Int) = x := Int.toNat_of_nonneg (by have := h.1; omega)
end Go.Proofs.YtabpkohcimiceabGreat

namespace Go.Proofs.YtabpkohcimiceabGreat
open Go.RowKit
set_option linter.unusedVariables false

/-- What holds of the plan of a letter that is taken. -/
theorem recv_safe (d t : List UInt8) (draw : Int) (h : recvErr d t draw = 0) : ∃ k, isDiskL d = true ∧ d.length = k * 32 ∧ 1 ≤ k ∧ k ≤ 40 ∧
    recvTo d t draw = packL (recvS d t draw) (1 - liveL d) (k * 32) ∧
    recvPlan d t draw = encL (rplR d (recvTo d t draw) (heldS d).cap (liveL d)) ∧
    recsL (recvPlan d t draw) k = some (rplR d (recvTo d t draw) (heldS d).cap (liveL d)) ∧
    (∀ kq, leftL d (rplR d (recvTo d t draw) (heldS d).cap (liveL d)) (rplR d (recvTo d t draw) (heldS d).cap (liveL d)).length kq = recvTo d t draw) ∧
    ∀ m kq, m ≤ (rplR d (recvTo d t draw) (heldS d).cap (liveL d)).length → repairR (leftL d (rplR d (recvTo d t draw) (heldS d).cap (liveL d)) m kq) = (d, 0) ∨ repairR (leftL d (rplR d (recvTo d t draw) (heldS d).cap (liveL d)) m kq) = (recvTo d t draw, 0) := by
  obtain ⟨h0, hs, hl, hr⟩ := recvErr_ok h
  obtain ⟨k, hg⟩ := open_good _ h0
  obtain ⟨gl, gk⟩ := good_lawQ hg
  have hkl := hg.kept
  have hcap := hg.cap
  obtain ⟨p1, p2, p3, p4, p5, p6, p7, p8⟩ := letOk_parts hl
  obtain ⟨xl, xk, xc, xn⟩ := recv_law gl gk (by omega) (letOf t) draw.toNat p1 p2 p3 p4 p5 (by rw [sec_nat hs]; exact hs) hr
  have e1 : recvS d t draw = (recvR (heldS d) (letOf t) draw.toNat).2.2 := by rw [recvS]
  rw [← e1] at xl xk xc xn
  have hok2 : StOk (recvS d t draw) := stOk_of xl xk (by omega)
  have hto : recvTo d t draw = packL (recvS d t draw) (1 - liveL d) (k * 32) := by rw [recvTo, if_pos h, hg.len]
  have hpl : recvPlan d t draw = encL (rplR d (recvTo d t draw) (heldS d).cap (liveL d)) := by rw [recvPlan, if_pos h, hto, hg.len]
  generalize recvS d t draw = s2 at *
  have hs := rpl_safe (s := heldS d) (s2 := s2) (liveL d) k hg.ok hkl hcap hg.live hg.need hg.k2 hg.law hok2 xn ((law_iff _).2 ⟨xl, xn⟩) xc
  rw [← hg.pack, ← hto] at hs
  obtain ⟨r1, r2, r3⟩ := hs
  exact ⟨k, hg.disk, hg.len, hg.k1, hg.k2, hto, hpl, by rw [hpl]; exact r1, r2, r3⟩
theorem encL_bd (k : Nat) : ∀ l : List RecM, (∀ r ∈ l, r.ok k) → (encL l).length ≤ l.length * 33
  | [], _ => by simp [encL]
  | r :: l, h => by
    have ih := encL_bd k l (fun x hx => h x (List.mem_cons_of_mem _ hx))
    have h1 : (encR r).length ≤ 33 := by
      rw [encR]
      rcases h r List.mem_cons_self with ⟨q, _⟩ | ⟨q, _, _, q2⟩
      · rw [if_pos q]; simp
      · rw [if_neg (by rw [q]; simp)]; simp [q2]
    rw [encL, List.length_append, List.length_cons]; omega
end Go.Proofs.YtabpkohcimiceabGreat

namespace Go.Proofs.YtabpkohcimiceabGreat
open Go.RowKit
set_option linter.unusedVariables false
set_option linter.unusedSimpArgs false

set_option maxRecDepth 100000 in
set_option maxHeartbeats 1000000 in
theorem pawlRecv_bad (d t : ByteArray) (draw : Int) (w : World) (hd : d.size ≤ maxLen) (ht : t.size ≤ maxLen) (h : openErr d.data.toList ≠ 0) :
    Calls Tryz.prog 31 #[.string d, .string t, .int .i64 draw] w fun e w' => e = .returned (.tuple #[.string ⟨#[]⟩, .string ⟨#[]⟩, .int .i64 (openErr d.data.toList)]) ∧ Below w.heap.size w w' := by
  have hI : (openErr d.data.toList == 0) = false := by rw [beq_eq_false_iff_ne]; exact h
  have c1 : ∀ w, Calls Tryz.prog 67 #[.string d] w fun e w' => e = .returned (.tuple #[.agg zeroCells16, .int .i64 (openErr d.data.toList)]) ∧ Below w.heap.size w w' := by
    intro w
    refine (openDisk_any d w hd).mono ?_
    rintro e w' ⟨q, hb⟩
    rcases q with ⟨q, _⟩ | ⟨_, q⟩
    · exact absurd q h
    · exact ⟨q, hb⟩
  unfold zeroCells16 at c1
  generalize openErr d.data.toList = er at *
  go_enter Tryz.func31, Tryz.ntmps31
  go_wp2_with (first | (go_at_call 67; (with_reducible refine (c1 _).mono ?_); rintro e w1 ⟨rfl, hb1⟩))
  go_ret3
  exact ⟨rfl, hb1.alloc hb1.size _⟩

set_option maxRecDepth 100000 in
set_option maxHeartbeats 1000000 in
theorem pawlRecv_sec (d t : ByteArray) (draw : Int) (w : World) (hd : d.size ≤ maxLen) (ht : t.size ≤ maxLen) (h : openErr d.data.toList = 0) (hs : ¬ Sec draw) :
    Calls Tryz.prog 31 #[.string d, .string t, .int .i64 draw] w fun e w' => e = .returned (.tuple #[.string ⟨#[]⟩, .string ⟨#[]⟩, .int .i64 3]) ∧ Below w.heap.size w w' := by
  have c1 : ∀ w, Calls Tryz.prog 67 #[.string d] w fun e w' => (∃ (a : Option Addr) (n c : Nat), e = .returned (.tuple #[.agg (stateCells 3 (repL d.data.toList) (liveL d.data.toList) (heldS d.data.toList) a n c), .int .i64 0]) ∧ w'.ownsRow w.heap.size 154 3 (.slice a n c) (heldS d.data.toList).kept.length (entsCells (heldS d.data.toList).kept)) ∧ Below w.heap.size w w' := by
    intro w
    refine (openDisk_any d w hd).mono ?_
    rintro e w' ⟨q, hb⟩
    rcases q with ⟨_, q⟩ | ⟨q, _⟩
    · exact ⟨q, hb⟩
    · exact absurd h q
  unfold stateCells at c1
  have c2 := fun w => devIsSecret_any draw w
  rw [decide_eq_false hs] at c2
  generalize str (repL d.data.toList) = rp at *
  generalize heldS d.data.toList = ss at *
  generalize liveL d.data.toList = lv at *
  clear h hs
  go_enter Tryz.func31, Tryz.ntmps31
  go_wp2_with (first | (go_at_call 67; (with_reducible refine (c1 _).mono ?_); rintro e w1 ⟨⟨aa, nn, cc, rfl, hown⟩, hb1⟩) | (go_at_call 55; (with_reducible refine (c2 _).mono ?_); rintro e w' ⟨rfl, hw⟩; rw [hw]; clear hw w'))
  go_ret3
  exact ⟨rfl, hb1.alloc hb1.size _⟩

set_option maxRecDepth 100000 in
set_option maxHeartbeats 1000000 in
theorem pawlRecv_frame (d t : ByteArray) (draw : Int) (w : World) (hd : d.size ≤ maxLen) (ht : t.size ≤ maxLen) (h : openErr d.data.toList = 0) (hs : Sec draw) (hl : ¬ letOk t.data.toList) :
    Calls Tryz.prog 31 #[.string d, .string t, .int .i64 draw] w fun e w' => e = .returned (.tuple #[.string ⟨#[]⟩, .string ⟨#[]⟩, .int .i64 4]) ∧ Below w.heap.size w w' := by
  have c1 : ∀ w, Calls Tryz.prog 67 #[.string d] w fun e w' => (∃ (a : Option Addr) (n c : Nat), e = .returned (.tuple #[.agg (stateCells 3 (repL d.data.toList) (liveL d.data.toList) (heldS d.data.toList) a n c), .int .i64 0]) ∧ w'.ownsRow w.heap.size 154 3 (.slice a n c) (heldS d.data.toList).kept.length (entsCells (heldS d.data.toList).kept)) ∧ Below w.heap.size w w' := by
    intro w
    refine (openDisk_any d w hd).mono ?_
    rintro e w' ⟨q, hb⟩
    rcases q with ⟨_, q⟩ | ⟨q, _⟩
    · exact ⟨q, hb⟩
    · exact absurd h q
  unfold stateCells at c1
  have c2 := fun w => devIsSecret_any draw w
  rw [decide_eq_true hs] at c2
  have c3 : ∀ w, Calls Tryz.prog 71 #[.string t] w fun e w' => (∃ l : LetM, e = .returned (.tuple #[.agg #[.int .i64 l.step, .int .i64 l.count, .int .i64 l.prev, .int .i64 l.pub, .string (str l.head), .string (str l.body)], .bool false])) ∧ Below w.heap.size w w' := by
    intro w
    refine (lettersRead_any t w ht).mono ?_
    rintro e w' ⟨⟨l, he, _⟩, hb⟩
    rw [decide_eq_false hl] at he
    exact ⟨⟨l, he⟩, hb⟩
  generalize str (repL d.data.toList) = rp at *
  generalize heldS d.data.toList = ss at *
  generalize liveL d.data.toList = lv at *
  clear h hs hl
  go_enter Tryz.func31, Tryz.ntmps31
  go_wp2_with (first | (go_at_call 67; (with_reducible refine (c1 _).mono ?_); rintro e w1 ⟨⟨aa, nn, cc, rfl, hown⟩, hb1⟩) | (go_at_call 55; (with_reducible refine (c2 _).mono ?_); rintro e w' ⟨rfl, hw⟩; rw [hw]; clear hw w') | (go_at_call 71; go_loud (with_reducible refine (c3 _).mono ?_); rintro e w2 ⟨⟨l, rfl⟩, hb2⟩))
  go_ret3
  refine ⟨rfl, ?_⟩
  have hb3 := below_tr (hb1.alloc hb1.size _) hb2
  exact hb3.alloc hb3.size _

set_option maxRecDepth 100000 in
set_option maxHeartbeats 1000000 in
theorem pawlRecv_ref (d t : ByteArray) (draw : Int) (w : World) (hd : d.size ≤ maxLen) (ht : t.size ≤ maxLen) (h : openErr d.data.toList = 0) (hs : Sec draw) (hl : letOk t.data.toList) (hr : (recvR (heldS d.data.toList) (letOf t.data.toList) draw.toNat).1 ≠ 0) :
    Calls Tryz.prog 31 #[.string d, .string t, .int .i64 draw] w fun e w' => e = .returned (.tuple #[.string ⟨#[]⟩, .string ⟨#[]⟩, .int .i64 (recvR (heldS d.data.toList) (letOf t.data.toList) draw.toNat).1]) ∧ Below w.heap.size w w' := by
  obtain ⟨k, hg⟩ := open_good _ h
  have hdl := len_list d
  have hk : d.size = k * 32 := by rw [← hdl]; exact hg.len
  have hk2 := hg.k2
  have hlv := hg.live
  obtain ⟨gl, gk⟩ := good_lawQ hg
  have hkl := hg.kept
  have hcap := hg.cap
  have hneed := hg.need
  have hsec := gl.sec.2
  have hst := gl.step
  obtain ⟨l1, l2, l3, l4, l5, l6, l7, l8⟩ := letOk_parts hl
  have hdn := sec_nat hs
  have hds := hs.2
  have hd1 := hs.1
  have c1 : ∀ w, Calls Tryz.prog 67 #[.string d] w fun e w' => (∃ (a : Option Addr) (n c : Nat), e = .returned (.tuple #[.agg (stateCells 3 (repL d.data.toList) (liveL d.data.toList) (heldS d.data.toList) a n c), .int .i64 0]) ∧ w'.ownsRow w.heap.size 154 3 (.slice a n c) (heldS d.data.toList).kept.length (entsCells (heldS d.data.toList).kept)) ∧ Below w.heap.size w w' := by
    intro w
    refine (openDisk_any d w hd).mono ?_
    rintro e w' ⟨q, hb⟩
    rcases q with ⟨_, q⟩ | ⟨q, _⟩
    · exact ⟨q, hb⟩
    · exact absurd h q
  unfold stateCells at c1
  have c2 := fun w => devIsSecret_any draw w
  rw [decide_eq_true hs] at c2
  have c3 : ∀ w, Calls Tryz.prog 71 #[.string t] w fun e w' => e = .returned (.tuple #[.agg #[.int .i64 ((letOf t.data.toList).step : Int), .int .i64 ((letOf t.data.toList).count : Int), .int .i64 ((letOf t.data.toList).prev : Int), .int .i64 ((letOf t.data.toList).pub : Int), .string (str (letOf t.data.toList).head), .string (str (letOf t.data.toList).body)], .bool true]) ∧ Below w.heap.size w w' := by
    intro w
    refine (lettersRead_any t w ht).mono ?_
    rintro e w' ⟨⟨l, he, hq⟩, hb⟩
    rw [decide_eq_true hl, hq hl] at he
    exact ⟨he, hb⟩
  have c4 := fun aa nn cc w hv => talkReceive_any (heldS d.data.toList) aa nn cc (letOf t.data.toList) draw.toNat (fun _ => False) w (by omega) (by omega) (by omega) (by omega) (by omega) gk.inn gk.root (by omega) (by have := l5.2; omega) (by omega) hv (fun g o n c _ h => h) (fun g h => h.elim) (fun h0 => by
    obtain ⟨a, b, c, e, f⟩ := keyR_law gl gk (by omega) (letOf t.data.toList) draw.toNat l1 l2 l3 l4 l5 (by rw [hdn]; exact hs) h0
    exact ⟨c, by omega, f⟩) (by omega) l7 (by omega)
  rw [hdn] at c4
  have hrb := recv_bd (heldS d.data.toList) (letOf t.data.toList) draw.toNat
  generalize str (repL d.data.toList) = rp at *
  generalize heldS d.data.toList = ss at *
  generalize liveL d.data.toList = lv at *
  generalize letOf t.data.toList = l at *
  have c5 : ∀ aa nn cc w, EntsAt w (.slice aa nn cc) ss.kept → Calls Tryz.prog 72 #[.agg #[.int .i64 ss.role, .int .i64 ss.step, .int .i64 ss.sent, .int .i64 ss.got, .int .i64 ss.prev, .int .i64 ss.skip, .int .i64 ss.cap, .string (str ss.root), .string (str ss.out), .string (str ss.inn), .int .i64 ss.secret, .int .i64 ss.peer, .slice aa nn cc], .agg #[.int .i64 l.step, .int .i64 l.count, .int .i64 l.prev, .int .i64 l.pub, .string (str l.head), .string (str l.body)], .int .i64 draw] w fun e w' => e = .returned (.tuple #[.string ⟨#[]⟩, .agg #[.int .i64 0, .int .i64 0, .int .i64 0, .int .i64 0, .int .i64 0, .int .i64 0, .int .i64 0, .string ⟨#[]⟩, .string ⟨#[]⟩, .string ⟨#[]⟩, .int .i64 0, .int .i64 0, .slice none 0 0], .int .i64 (recvR ss l draw.toNat).1]) ∧ Below w.heap.size w w' := by
    intro aa nn cc w hv
    refine (c4 aa nn cc w hv).mono ?_
    rintro e w' ⟨q, hb⟩
    rcases q with ⟨_, q⟩ | ⟨q, _⟩
    · exact ⟨q, hb⟩
    · exact absurd q hr
  have i1 : ((recvR ss l draw.toNat).1 == 0) = false := by rw [beq_eq_false_iff_ne]; exact hr
  generalize (recvR ss l draw.toNat).1 = er at *
  clear c4 hg gl gk h hs hl hr l1 l2 l3 l4 l5 l6 l7 l8
  go_enter Tryz.func31, Tryz.ntmps31
  go_upto_region 9 with (first | (go_at_call 67; (with_reducible refine (c1 _).mono ?_); rintro e w1 ⟨⟨aa, nn, cc, rfl, hown⟩, hb1⟩) | (go_at_call 55; (with_reducible refine (c2 _).mono ?_); rintro e w' ⟨rfl, hw⟩; rw [hw]; clear hw w') | (go_at_call 71; go_loud (with_reducible refine (c3 _).mono ?_); rintro e w2 ⟨rfl, hb2⟩))
  have hs1 := hb1.size
  have hs2 := hb2.size
  have hlt1 : w1.heap.size < w2.heap.size := Nat.lt_of_lt_of_le (by simp) hs2
  have hA0 := heap_alloc_new w1 (.cells #[.int .i64 3, .string rp, .int .i64 lv, .int .i64 ss.role, .int .i64 ss.step, .int .i64 ss.sent, .int .i64 ss.got, .int .i64 ss.prev, .int .i64 ss.skip, .int .i64 ss.cap, .string (str ss.root), .string (str ss.out), .string (str ss.inn), .int .i64 ss.secret, .int .i64 ss.peer, .slice aa nn cc] 98)
  have hA : (w2.alloc (.cells #[.int .i64 l.step, .int .i64 l.count, .int .i64 l.prev, .int .i64 l.pub, .string (str l.head), .string (str l.body)] 110)).heap[w1.heap.size]? = some (.cells #[.int .i64 3, .string rp, .int .i64 lv, .int .i64 ss.role, .int .i64 ss.step, .int .i64 ss.sent, .int .i64 ss.got, .int .i64 ss.prev, .int .i64 ss.skip, .int .i64 ss.cap, .string (str ss.root), .string (str ss.out), .string (str ss.inn), .int .i64 ss.secret, .int .i64 ss.peer, .slice aa nn cc] 98) := (Below.heap_alloc _ _ _ hlt1).trans ((hb2.block w1.heap.size (by simp)).trans hA0)
  have hL := heap_alloc_new w2 (.cells #[.int .i64 l.step, .int .i64 l.count, .int .i64 l.prev, .int .i64 l.pub, .string (str l.head), .string (str l.body)] 110)
  have hE : EntsAt (w2.alloc (.cells #[.int .i64 l.step, .int .i64 l.count, .int .i64 l.prev, .int .i64 l.pub, .string (str l.head), .string (str l.body)] 110)) (.slice aa nn cc) ss.kept := ((EntsAt.of_own (hown.alloc _)).next hb2).next ((Below.refl _ _).alloc (Nat.le_refl _) _)
  have hW : Below w.heap.size w (w2.alloc (.cells #[.int .i64 l.step, .int .i64 l.count, .int .i64 l.prev, .int .i64 l.pub, .string (str l.head), .string (str l.body)] 110)) := below_tr (below_tr (hb1.alloc hb1.size _) hb2) ((Below.refl _ _).alloc (Nat.le_refl _) _)
  have hlt : w1.heap.size < (w2.alloc (.cells #[.int .i64 l.step, .int .i64 l.count, .int .i64 l.prev, .int .i64 l.pub, .string (str l.head), .string (str l.body)] 110)).heap.size := by simp; omega
  generalize (w2.alloc (.cells #[.int .i64 l.step, .int .i64 l.count, .int .i64 l.prev, .int .i64 l.pub, .string (str l.head), .string (str l.body)] 110)) = wb at hA hL hE hW hlt ⊢
  generalize w1.heap.size = B at hA hlt ⊢
  generalize w2.heap.size = C at hL ⊢
  have k3 : wb.cell? ⟨B, 3, none⟩ = some (.int .i64 ss.role) := cell_of_row wb _ 3 _ _ _ hA
  have k4 : wb.cell? ⟨B, 4, none⟩ = some (.int .i64 ss.step) := cell_of_row wb _ 4 _ _ _ hA
  have k5 : wb.cell? ⟨B, 5, none⟩ = some (.int .i64 ss.sent) := cell_of_row wb _ 5 _ _ _ hA
  have k6 : wb.cell? ⟨B, 6, none⟩ = some (.int .i64 ss.got) := cell_of_row wb _ 6 _ _ _ hA
  have k7 : wb.cell? ⟨B, 7, none⟩ = some (.int .i64 ss.prev) := cell_of_row wb _ 7 _ _ _ hA
  have k8 : wb.cell? ⟨B, 8, none⟩ = some (.int .i64 ss.skip) := cell_of_row wb _ 8 _ _ _ hA
  have k9 : wb.cell? ⟨B, 9, none⟩ = some (.int .i64 ss.cap) := cell_of_row wb _ 9 _ _ _ hA
  have k10 : wb.cell? ⟨B, 10, none⟩ = some (.string (str ss.root)) := cell_of_row wb _ 10 _ _ _ hA
  have k11 : wb.cell? ⟨B, 11, none⟩ = some (.string (str ss.out)) := cell_of_row wb _ 11 _ _ _ hA
  have k12 : wb.cell? ⟨B, 12, none⟩ = some (.string (str ss.inn)) := cell_of_row wb _ 12 _ _ _ hA
  have k13 : wb.cell? ⟨B, 13, none⟩ = some (.int .i64 ss.secret) := cell_of_row wb _ 13 _ _ _ hA
  have k14 : wb.cell? ⟨B, 14, none⟩ = some (.int .i64 ss.peer) := cell_of_row wb _ 14 _ _ _ hA
  have k15 : wb.cell? ⟨B, 15, none⟩ = some (.slice aa nn cc) := cell_of_row wb _ 15 _ _ _ hA
  obtain ⟨q0, q1, q2, q3, q4, q5⟩ := cells6 hL
  have HA := hid hA
  have HE : Hid (EntsAt wb (.slice aa nn cc) ss.kept) := hE
  have HW : Hid (Below w.heap.size w wb) := hW
  clear hA hA0 hL hE hW hown hb1 hb2 c1 c3 hs1 hs2
  go_wp2_with (first | (go_at_call 72; go_loud (with_reducible refine (c5 _ _ _ _ HE.out).mono ?_); rintro e w3 ⟨rfl, hb3⟩))
  go_ret3
  refine ⟨rfl, ?_⟩
  have hb4 := below_tr HW.out hb3
  exact hb4.alloc hb4.size _

set_option maxRecDepth 100000 in
set_option maxHeartbeats 1000000 in
theorem pawlRecv_ok (d t : ByteArray) (draw : Int) (w : World) (hd : d.size ≤ maxLen) (ht : t.size ≤ maxLen) (he : recvErr d.data.toList t.data.toList draw = 0) :
    Calls Tryz.prog 31 #[.string d, .string t, .int .i64 draw] w fun e w' => e = .returned (.tuple #[.string (str (recvTxt d.data.toList t.data.toList draw)), .string (str (recvPlan d.data.toList t.data.toList draw)), .int .i64 0]) ∧ Below w.heap.size w w' := by
  obtain ⟨h, hs, hl, hr⟩ := recvErr_ok he
  obtain ⟨k, hg⟩ := open_good _ h
  have hdl := len_list d
  have hk : d.size = k * 32 := by rw [← hdl]; exact hg.len
  have hk2 := hg.k2
  have hlv := hg.live
  obtain ⟨gl, gk⟩ := good_lawQ hg
  have hkl := hg.kept
  have hcap := hg.cap
  have hneed := hg.need
  have hsec := gl.sec.2
  have hst := gl.step
  obtain ⟨l1, l2, l3, l4, l5, l6, l7, l8⟩ := letOk_parts hl
  have hdn := sec_nat hs
  have hds := hs.2
  have hd1 := hs.1
  have c1 : ∀ w, Calls Tryz.prog 67 #[.string d] w fun e w' => (∃ (a : Option Addr) (n c : Nat), e = .returned (.tuple #[.agg (stateCells 3 (repL d.data.toList) (liveL d.data.toList) (heldS d.data.toList) a n c), .int .i64 0]) ∧ w'.ownsRow w.heap.size 154 3 (.slice a n c) (heldS d.data.toList).kept.length (entsCells (heldS d.data.toList).kept)) ∧ Below w.heap.size w w' := by
    intro w
    refine (openDisk_any d w hd).mono ?_
    rintro e w' ⟨q, hb⟩
    rcases q with ⟨_, q⟩ | ⟨q, _⟩
    · exact ⟨q, hb⟩
    · exact absurd h q
  unfold stateCells at c1
  have c2 := fun w => devIsSecret_any draw w
  rw [decide_eq_true hs] at c2
  have c3 : ∀ w, Calls Tryz.prog 71 #[.string t] w fun e w' => e = .returned (.tuple #[.agg #[.int .i64 ((letOf t.data.toList).step : Int), .int .i64 ((letOf t.data.toList).count : Int), .int .i64 ((letOf t.data.toList).prev : Int), .int .i64 ((letOf t.data.toList).pub : Int), .string (str (letOf t.data.toList).head), .string (str (letOf t.data.toList).body)], .bool true]) ∧ Below w.heap.size w w' := by
    intro w
    refine (lettersRead_any t w ht).mono ?_
    rintro e w' ⟨⟨l, he, hq⟩, hb⟩
    rw [decide_eq_true hl, hq hl] at he
    exact ⟨he, hb⟩
  have c4 := fun aa nn cc w hv => talkReceive_any (heldS d.data.toList) aa nn cc (letOf t.data.toList) draw.toNat (fun _ => False) w (by omega) (by omega) (by omega) (by omega) (by omega) gk.inn gk.root (by omega) (by have := l5.2; omega) (by omega) hv (fun g o n c _ h => h) (fun g h => h.elim) (fun h0 => by
    obtain ⟨a, b, c, e, f⟩ := keyR_law gl gk (by omega) (letOf t.data.toList) draw.toNat l1 l2 l3 l4 l5 (by rw [hdn]; exact hs) h0
    exact ⟨c, by omega, f⟩) (by omega) l7 (by omega)
  rw [hdn] at c4
  obtain ⟨rl, rk, rc, rn⟩ := recv_law gl gk (by omega) (letOf t.data.toList) draw.toNat l1 l2 l3 l4 l5 (by rw [hdn]; exact hs) hr
  have hS : recvS d.data.toList t.data.toList draw = (recvR (heldS d.data.toList) (letOf t.data.toList) draw.toNat).2.2 := by rw [recvS]
  rw [recvTxt, if_pos he, recvPlan, if_pos he, hS, hdl, hk]
  clear he hS
  generalize recvR (heldS d.data.toList) (letOf t.data.toList) draw.toNat = kr at *
  obtain ⟨k0, tx, s2⟩ := kr
  dsimp only at rl rk rc rn hr c4 ⊢
  have c6 := fun so rp ss aa nn cc a2 n2 c2 w hv => replace_any d k so rp (liveL d.data.toList) ss aa nn cc s2 a2 n2 c2 w hk hk2 hlv (stOk_of rl rk (by omega)) rn (by omega) (by rw [rc]; exact hneed) hv
  rw [rc] at c6
  have c5 : ∀ aa nn cc w, EntsAt w (.slice aa nn cc) (heldS d.data.toList).kept → Calls Tryz.prog 72 #[.agg (stCells (heldS d.data.toList) (.slice aa nn cc)), .agg #[.int .i64 ((letOf t.data.toList).step : Int), .int .i64 ((letOf t.data.toList).count : Int), .int .i64 ((letOf t.data.toList).prev : Int), .int .i64 ((letOf t.data.toList).pub : Int), .string (str (letOf t.data.toList).head), .string (str (letOf t.data.toList).body)], .int .i64 draw] w fun e w' => (∃ (a : Option Addr) (n c : Nat), e = .returned (.tuple #[.string (str tx), .agg (stCells s2 (.slice a n c)), .int .i64 0]) ∧ EntsAt w' (.slice a n c) s2.kept) ∧ Below w.heap.size w w' := by
    intro aa nn cc w hv
    refine (c4 aa nn cc w hv).mono ?_
    rintro e w' ⟨q, hb⟩
    rcases q with ⟨q, _⟩ | ⟨_, a, n, c, q1, q2, _⟩
    · exact absurd hr q
    · exact ⟨⟨a, n, c, q1, q2⟩, hb⟩
  unfold stCells at c5
  clear c4
  generalize str (repL d.data.toList) = rp at *
  generalize str (encL (rplR d.data.toList (packL s2 (1 - liveL d.data.toList) (k * 32)) (heldS d.data.toList).cap (liveL d.data.toList))) = pl at *
  have HK0 : Hid (s2.cap = (heldS d.data.toList).cap) := rc
  clear hg gl gk h hs hl hr l1 l2 l3 l4 l5 l6 l7 l8 rl rk rc rn
  generalize heldS d.data.toList = ss at *
  generalize liveL d.data.toList = lv at *
  generalize letOf t.data.toList = l at *
  generalize str tx = sx at *
  have c6' : ∀ so rp (sx : StM) aa nn cc a2 n2 c2 w, EntsAt w (.slice a2 n2 c2) s2.kept → Calls Tryz.prog 69 #[.string d, .agg #[.int .i64 so, .string rp, .int .i64 lv, .int .i64 sx.role, .int .i64 sx.step, .int .i64 sx.sent, .int .i64 sx.got, .int .i64 sx.prev, .int .i64 sx.skip, .int .i64 sx.cap, .string (str sx.root), .string (str sx.out), .string (str sx.inn), .int .i64 sx.secret, .int .i64 sx.peer, .slice aa nn cc], .agg #[.int .i64 s2.role, .int .i64 s2.step, .int .i64 s2.sent, .int .i64 s2.got, .int .i64 s2.prev, .int .i64 s2.skip, .int .i64 s2.cap, .string (str s2.root), .string (str s2.out), .string (str s2.inn), .int .i64 s2.secret, .int .i64 s2.peer, .slice a2 n2 c2]] w fun e w' => e = .returned (.string pl) ∧ Below w.heap.size w w' := fun so rp sx aa nn cc a2 n2 c2 w hv => by rw [HK0.out]; exact c6 so rp sx aa nn cc a2 n2 c2 w hv
  clear c6 HK0
  go_enter Tryz.func31, Tryz.ntmps31
  go_upto_region 9 with (first | (go_at_call 67; (with_reducible refine (c1 _).mono ?_); rintro e w1 ⟨⟨aa, nn, cc, rfl, hown⟩, hb1⟩) | (go_at_call 55; (with_reducible refine (c2 _).mono ?_); rintro e w' ⟨rfl, hw⟩; rw [hw]; clear hw w') | (go_at_call 71; go_loud (with_reducible refine (c3 _).mono ?_); rintro e w2 ⟨rfl, hb2⟩))
  have hs1 := hb1.size
  have hs2 := hb2.size
  have hlt1 : w1.heap.size < w2.heap.size := Nat.lt_of_lt_of_le (by simp) hs2
  have hA0 := heap_alloc_new w1 (.cells #[.int .i64 3, .string rp, .int .i64 lv, .int .i64 ss.role, .int .i64 ss.step, .int .i64 ss.sent, .int .i64 ss.got, .int .i64 ss.prev, .int .i64 ss.skip, .int .i64 ss.cap, .string (str ss.root), .string (str ss.out), .string (str ss.inn), .int .i64 ss.secret, .int .i64 ss.peer, .slice aa nn cc] 98)
  have hA : (w2.alloc (.cells #[.int .i64 l.step, .int .i64 l.count, .int .i64 l.prev, .int .i64 l.pub, .string (str l.head), .string (str l.body)] 110)).heap[w1.heap.size]? = some (.cells #[.int .i64 3, .string rp, .int .i64 lv, .int .i64 ss.role, .int .i64 ss.step, .int .i64 ss.sent, .int .i64 ss.got, .int .i64 ss.prev, .int .i64 ss.skip, .int .i64 ss.cap, .string (str ss.root), .string (str ss.out), .string (str ss.inn), .int .i64 ss.secret, .int .i64 ss.peer, .slice aa nn cc] 98) := (Below.heap_alloc _ _ _ hlt1).trans ((hb2.block w1.heap.size (by simp)).trans hA0)
  have hL := heap_alloc_new w2 (.cells #[.int .i64 l.step, .int .i64 l.count, .int .i64 l.prev, .int .i64 l.pub, .string (str l.head), .string (str l.body)] 110)
  have hE : EntsAt (w2.alloc (.cells #[.int .i64 l.step, .int .i64 l.count, .int .i64 l.prev, .int .i64 l.pub, .string (str l.head), .string (str l.body)] 110)) (.slice aa nn cc) ss.kept := ((EntsAt.of_own (hown.alloc _)).next hb2).next ((Below.refl _ _).alloc (Nat.le_refl _) _)
  have hW : Below w.heap.size w (w2.alloc (.cells #[.int .i64 l.step, .int .i64 l.count, .int .i64 l.prev, .int .i64 l.pub, .string (str l.head), .string (str l.body)] 110)) := below_tr (below_tr (hb1.alloc hb1.size _) hb2) ((Below.refl _ _).alloc (Nat.le_refl _) _)
  have hlt : w1.heap.size < (w2.alloc (.cells #[.int .i64 l.step, .int .i64 l.count, .int .i64 l.prev, .int .i64 l.pub, .string (str l.head), .string (str l.body)] 110)).heap.size := by simp; omega
  generalize (w2.alloc (.cells #[.int .i64 l.step, .int .i64 l.count, .int .i64 l.prev, .int .i64 l.pub, .string (str l.head), .string (str l.body)] 110)) = wb at hA hL hE hW hlt ⊢
  generalize w1.heap.size = B at hA hlt ⊢
  generalize w2.heap.size = C at hL ⊢
  have k3 : wb.cell? ⟨B, 3, none⟩ = some (.int .i64 ss.role) := cell_of_row wb _ 3 _ _ _ hA
  have k4 : wb.cell? ⟨B, 4, none⟩ = some (.int .i64 ss.step) := cell_of_row wb _ 4 _ _ _ hA
  have k5 : wb.cell? ⟨B, 5, none⟩ = some (.int .i64 ss.sent) := cell_of_row wb _ 5 _ _ _ hA
  have k6 : wb.cell? ⟨B, 6, none⟩ = some (.int .i64 ss.got) := cell_of_row wb _ 6 _ _ _ hA
  have k7 : wb.cell? ⟨B, 7, none⟩ = some (.int .i64 ss.prev) := cell_of_row wb _ 7 _ _ _ hA
  have k8 : wb.cell? ⟨B, 8, none⟩ = some (.int .i64 ss.skip) := cell_of_row wb _ 8 _ _ _ hA
  have k9 : wb.cell? ⟨B, 9, none⟩ = some (.int .i64 ss.cap) := cell_of_row wb _ 9 _ _ _ hA
  have k10 : wb.cell? ⟨B, 10, none⟩ = some (.string (str ss.root)) := cell_of_row wb _ 10 _ _ _ hA
  have k11 : wb.cell? ⟨B, 11, none⟩ = some (.string (str ss.out)) := cell_of_row wb _ 11 _ _ _ hA
  have k12 : wb.cell? ⟨B, 12, none⟩ = some (.string (str ss.inn)) := cell_of_row wb _ 12 _ _ _ hA
  have k13 : wb.cell? ⟨B, 13, none⟩ = some (.int .i64 ss.secret) := cell_of_row wb _ 13 _ _ _ hA
  have k14 : wb.cell? ⟨B, 14, none⟩ = some (.int .i64 ss.peer) := cell_of_row wb _ 14 _ _ _ hA
  have k15 : wb.cell? ⟨B, 15, none⟩ = some (.slice aa nn cc) := cell_of_row wb _ 15 _ _ _ hA
  obtain ⟨q0, q1, q2, q3, q4, q5⟩ := cells6 hL
  have HA := hid hA
  have HE : Hid (EntsAt wb (.slice aa nn cc) ss.kept) := hE
  have HW : Hid (Below w.heap.size w wb) := hW
  clear hA hA0 hL hE hW hown hb1 hb2 c1 c3 hs1 hs2
  go_upto_region 12 with (first | (go_at_call 72; go_loud (with_reducible refine (c5 _ _ _ _ HE.out).mono ?_); rintro e w3 ⟨⟨a2, n2, c2', rfl, hE3⟩, hb3⟩))
  obtain ⟨c2, rfl⟩ : ∃ x, x = c2' := ⟨_, rfl⟩
  have hA2 : (w3.alloc (.cells #[.int .i64 s2.role, .int .i64 s2.step, .int .i64 s2.sent, .int .i64 s2.got, .int .i64 s2.prev, .int .i64 s2.skip, .int .i64 s2.cap, .string (str s2.root), .string (str s2.out), .string (str s2.inn), .int .i64 s2.secret, .int .i64 s2.peer, .slice a2 n2 c2] 90)).heap[B]? = some (.cells #[.int .i64 3, .string rp, .int .i64 lv, .int .i64 ss.role, .int .i64 ss.step, .int .i64 ss.sent, .int .i64 ss.got, .int .i64 ss.prev, .int .i64 ss.skip, .int .i64 ss.cap, .string (str ss.root), .string (str ss.out), .string (str ss.inn), .int .i64 ss.secret, .int .i64 ss.peer, .slice aa nn cc] 98) := (Below.heap_alloc _ _ _ (Nat.lt_of_lt_of_le hlt hb3.size)).trans ((hb3.block B hlt).trans HA.out)
  have hX2 := heap_alloc_new w3 (.cells #[.int .i64 s2.role, .int .i64 s2.step, .int .i64 s2.sent, .int .i64 s2.got, .int .i64 s2.prev, .int .i64 s2.skip, .int .i64 s2.cap, .string (str s2.root), .string (str s2.out), .string (str s2.inn), .int .i64 s2.secret, .int .i64 s2.peer, .slice a2 n2 c2] 90)
  have hE2 : EntsAt (w3.alloc (.cells #[.int .i64 s2.role, .int .i64 s2.step, .int .i64 s2.sent, .int .i64 s2.got, .int .i64 s2.prev, .int .i64 s2.skip, .int .i64 s2.cap, .string (str s2.root), .string (str s2.out), .string (str s2.inn), .int .i64 s2.secret, .int .i64 s2.peer, .slice a2 n2 c2] 90)) (.slice a2 n2 c2) s2.kept := hE3.next ((Below.refl _ _).alloc (Nat.le_refl _) _)
  have hW2 : Below w.heap.size w (w3.alloc (.cells #[.int .i64 s2.role, .int .i64 s2.step, .int .i64 s2.sent, .int .i64 s2.got, .int .i64 s2.prev, .int .i64 s2.skip, .int .i64 s2.cap, .string (str s2.root), .string (str s2.out), .string (str s2.inn), .int .i64 s2.secret, .int .i64 s2.peer, .slice a2 n2 c2] 90)) := below_tr (below_tr HW.out hb3) ((Below.refl _ _).alloc (Nat.le_refl _) _)
  generalize (w3.alloc (.cells #[.int .i64 s2.role, .int .i64 s2.step, .int .i64 s2.sent, .int .i64 s2.got, .int .i64 s2.prev, .int .i64 s2.skip, .int .i64 s2.cap, .string (str s2.root), .string (str s2.out), .string (str s2.inn), .int .i64 s2.secret, .int .i64 s2.peer, .slice a2 n2 c2] 90)) = wz at hA2 hX2 hE2 hW2 ⊢
  generalize w3.heap.size = B2 at hX2 ⊢
  clear k3 k4 k5 k6 k7 k8 k9 k10 k11 k12 k13 k14 k15 q0 q1 q2 q3 q4 q5 HA HE HW hb3 hE3
  have x0 : wz.cell? ⟨B, 0, none⟩ = some (.int .i64 3) := cell_of_row wz _ 0 _ _ _ hA2
  have x1 : wz.cell? ⟨B, 1, none⟩ = some (.string rp) := cell_of_row wz _ 1 _ _ _ hA2
  have x2 : wz.cell? ⟨B, 2, none⟩ = some (.int .i64 lv) := cell_of_row wz _ 2 _ _ _ hA2
  have x3 : wz.cell? ⟨B, 3, none⟩ = some (.int .i64 ss.role) := cell_of_row wz _ 3 _ _ _ hA2
  have x4 : wz.cell? ⟨B, 4, none⟩ = some (.int .i64 ss.step) := cell_of_row wz _ 4 _ _ _ hA2
  have x5 : wz.cell? ⟨B, 5, none⟩ = some (.int .i64 ss.sent) := cell_of_row wz _ 5 _ _ _ hA2
  have x6 : wz.cell? ⟨B, 6, none⟩ = some (.int .i64 ss.got) := cell_of_row wz _ 6 _ _ _ hA2
  have x7 : wz.cell? ⟨B, 7, none⟩ = some (.int .i64 ss.prev) := cell_of_row wz _ 7 _ _ _ hA2
  have x8 : wz.cell? ⟨B, 8, none⟩ = some (.int .i64 ss.skip) := cell_of_row wz _ 8 _ _ _ hA2
  have x9 : wz.cell? ⟨B, 9, none⟩ = some (.int .i64 ss.cap) := cell_of_row wz _ 9 _ _ _ hA2
  have x10 : wz.cell? ⟨B, 10, none⟩ = some (.string (str ss.root)) := cell_of_row wz _ 10 _ _ _ hA2
  have x11 : wz.cell? ⟨B, 11, none⟩ = some (.string (str ss.out)) := cell_of_row wz _ 11 _ _ _ hA2
  have x12 : wz.cell? ⟨B, 12, none⟩ = some (.string (str ss.inn)) := cell_of_row wz _ 12 _ _ _ hA2
  have x13 : wz.cell? ⟨B, 13, none⟩ = some (.int .i64 ss.secret) := cell_of_row wz _ 13 _ _ _ hA2
  have x14 : wz.cell? ⟨B, 14, none⟩ = some (.int .i64 ss.peer) := cell_of_row wz _ 14 _ _ _ hA2
  have x15 : wz.cell? ⟨B, 15, none⟩ = some (.slice aa nn cc) := cell_of_row wz _ 15 _ _ _ hA2
  obtain ⟨y0, y1, y2, y3, y4, y5, y6, y7, y8, y9, y10, y11, y12⟩ := cells13 hX2
  have HW2 : Hid (Below w.heap.size w wz) := hW2
  clear hA2 hX2 hW2
  go_wp2_with (first | (go_at_call 69; go_loud (with_reducible refine (c6' _ _ _ _ _ _ _ _ _ _ hE2).mono ?_); rintro e w4 ⟨rfl, hb4⟩))
  go_ret3
  exact ⟨rfl, below_tr HW2.out hb4⟩
theorem pawlReceive_any (d t : ByteArray) (draw : Int) (w : World) (hd : d.size ≤ maxLen) (ht : t.size ≤ maxLen) :
    Calls Tryz.prog 31 #[.string d, .string t, .int .i64 draw] w fun e w' => e = .returned (.tuple #[.string (str (recvTxt d.data.toList t.data.toList draw)), .string (str (recvPlan d.data.toList t.data.toList draw)), .int .i64 (recvErr d.data.toList t.data.toList draw)]) ∧ Below w.heap.size w w' := by
  by_cases he : recvErr d.data.toList t.data.toList draw = 0
  · rw [he]; exact pawlRecv_ok d t draw w hd ht he
  · rw [recvTxt, if_neg he, recvPlan, if_neg he]
    rw [recvErr] at *
    by_cases h : openErr d.data.toList = 0
    · rw [if_pos h] at *
      by_cases hs : Sec draw
      · rw [if_pos hs] at *
        by_cases hl : letOk t.data.toList
        · rw [if_pos hl] at *
          exact pawlRecv_ref d t draw w hd ht h hs hl he
        · rw [if_neg hl] at *
          exact pawlRecv_frame d t draw w hd ht h hs hl
      · rw [if_neg hs] at *
        exact pawlRecv_sec d t draw w hd ht h hs
    · rw [if_neg h]
      exact pawlRecv_bad d t draw w hd ht h
end Go.Proofs.YtabpkohcimiceabGreat
