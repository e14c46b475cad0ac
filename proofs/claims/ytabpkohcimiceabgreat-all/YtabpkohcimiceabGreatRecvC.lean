import Derived.Test.YtabpkohcimiceabGreatTakeB
import Derived.Test.YtabpkohcimiceabGreatSeal
import Derived.Test.YtabpkohcimiceabGreatRplC
import Derived.WalkKit
import Derived.WalkSpells
import Derived.WalkLawsBesides
import Derived.OwnWalk
import Derived.Laws.ResultCell
import Derived.Laws.Rows
import Derived.RegionTactic
namespace Go.Proofs.YtabpkohcimiceabGreat
open Go.RowKit
set_option linter.unusedVariables false
set_option linter.unusedSimpArgs false

/-! ### talk.Receive -/
theorem keyR_take (s : StM) (l : LetM) (draw : Nat) : keyR s l draw = if s.step + 1 < l.step ∨ l.step % 2 = s.step % 2 then (15, [], s) else if (takeR s l draw).1 = 0 then takeR s l draw else ((takeR s l draw).1, [], (keyR s l draw).2.2) := by
  rw [keyR]
  by_cases hx : s.step + 1 < l.step ∨ l.step % 2 = s.step % 2
  · rw [if_pos hx, if_pos hx]
  · rw [if_neg hx, if_neg hx, takeR]
    by_cases h1 : l.step = s.step + 1
    · rw [if_pos h1, if_pos h1, turnR]
      by_cases h2 : 2 ≤ s.step ∧ skipBad s l.prev
      · rw [if_pos h2, if_pos h2]; simp
      · rw [if_neg h2, if_neg h2, dueR]
        split <;> simp
    · rw [if_neg h1, if_neg h1]
      by_cases h2 : l.step + 1 = s.step ∧ s.got ≤ l.count
      · rw [if_pos h2, if_pos h2, dueR]
        split <;> simp
      · rw [if_neg h2, if_neg h2, oldR]
        cases hf : s.kept.find? (isEnt l.step l.count) <;> simp
/-- Where the letter's key is told, all is lawful but the number of keys. -/
theorem keyR_law {s : StM} (h : LawQ s) (hk : Keyed s) (hn : s.kept.length ≤ 100) (l : LetM) (draw : Nat) (hl1 : 1 ≤ l.step) (hl2 : l.step ≤ 29) (hc : l.count ≤ 49) (hp : l.prev ≤ 50) (hpub : Pub (l.pub : Int)) (hd : Sec (draw : Int)) (hok : (keyR s l draw).1 = 0) :
    LawQ (keyR s l draw).2.2 ∧ Keyed (keyR s l draw).2.2 ∧ (keyR s l draw).2.1.length = 8 ∧ (keyR s l draw).2.2.cap = s.cap ∧ (keyR s l draw).2.2.kept.length ≤ 255 := by
  have e := keyR_take s l draw
  by_cases hx : s.step + 1 < l.step ∨ l.step % 2 = s.step % 2
  · rw [if_pos hx] at e
    rw [e] at hok; simp at hok
  · rw [if_neg hx] at e
    by_cases h0 : (takeR s l draw).1 = 0
    · rw [if_pos h0] at e
      obtain ⟨a, b, c, d, f⟩ := take_law h hk l draw hl1 hl2 hc hp hpub hd h0
      rw [e]
      exact ⟨a, b, c, d, by omega⟩
    · rw [if_neg h0] at e
      rw [e] at hok
      exact absurd hok h0
/-- What a letter gives: the error, its text, the box behind it. -/
def recvR (s : StM) (l : LetM) (draw : Nat) : Int × List UInt8 × StM :=
  if (keyR s l draw).1 = 0 then (if opensL (keyR s l draw).2.1 l.head l.body then (0, veil (keyR s l draw).2.1 (l.body.take (l.body.length - 8)), capS (keyR s l draw).2.2) else (5, [], s)) else ((keyR s l draw).1, [], s)

set_option maxRecDepth 100000 in
set_option maxHeartbeats 1000000 in
theorem recv_err (s : StM) (aa : Option Addr) (nn cc : Nat) (l : LetM) (draw : Nat) (A : Nat → Prop) (w : World) (h255 : s.step ≤ 255) (hls : l.step ≤ 254) (hc : l.count ≤ 254) (hpv : l.prev ≤ 150) (hl : s.kept.length ≤ 100) (hin : s.inn.length = 8) (hroot : s.root.length = 8) (hs : s.secret < 2147483647) (hp : l.pub < 2147483647) (hd : draw < 2147483647) (hv : EntsAt w (.slice aa nn cc) s.kept) (ho : Off A (.slice aa nn cc)) (hA : ∀ g, A g → g < w.heap.size) (hky : (keyR s l draw).1 = 0 → (keyR s l draw).2.1.length = 8 ∧ (keyR s l draw).2.2.cap ≤ 30 ∧ (keyR s l draw).2.2.kept.length ≤ 255) (hhd : l.head.length ≤ 1000) (hb8 : 8 ≤ l.body.length) (hbd : l.body.length ≤ 1000) (hx : (keyR s l draw).1 ≠ 0) :
    Calls Tryz.prog 72 #[.agg #[.int .i64 s.role, .int .i64 s.step, .int .i64 s.sent, .int .i64 s.got, .int .i64 s.prev, .int .i64 s.skip, .int .i64 s.cap, .string (str s.root), .string (str s.out), .string (str s.inn), .int .i64 s.secret, .int .i64 s.peer, .slice aa nn cc], .agg #[.int .i64 l.step, .int .i64 l.count, .int .i64 l.prev, .int .i64 l.pub, .string (str l.head), .string (str l.body)], .int .i64 draw] w fun e w' => TakeOut (recvR s l draw) A w' e ∧ Below w.heap.size w w' := by
  have HA : Hid (∀ g, A g → g < w.heap.size) := hA
  have HQ : Hid (recvR s l draw = ((keyR s l draw).1, [], s)) := by
    show _ = _
    rw [recvR, if_neg hx]
  have HX : Hid ((keyR s l draw).1 ≠ 0) := hx
  go_enter Tryz.func72, Tryz.ntmps72
  go_upto_region 1 with fail
  obtain ⟨hB, hL, hR, hW, hlt⟩ := alloc3 w (.cells #[.int .i64 s.role, .int .i64 s.step, .int .i64 s.sent, .int .i64 s.got, .int .i64 s.prev, .int .i64 s.skip, .int .i64 s.cap, .string (str s.root), .string (str s.out), .string (str s.inn), .int .i64 s.secret, .int .i64 s.peer, .slice aa nn cc] 90) (.cells #[.int .i64 l.step, .int .i64 l.count, .int .i64 l.prev, .int .i64 l.pub, .string (str l.head), .string (str l.body)] 110) (.cells #[.int .i64 0, .int .i64 0, .int .i64 0, .int .i64 0, .int .i64 0, .int .i64 0, .int .i64 0, .string ⟨#[]⟩, .string ⟨#[]⟩, .string ⟨#[]⟩, .int .i64 0, .int .i64 0, .slice none 0 0] 90)
  generalize (((w.alloc (.cells #[.int .i64 s.role, .int .i64 s.step, .int .i64 s.sent, .int .i64 s.got, .int .i64 s.prev, .int .i64 s.skip, .int .i64 s.cap, .string (str s.root), .string (str s.out), .string (str s.inn), .int .i64 s.secret, .int .i64 s.peer, .slice aa nn cc] 90)).alloc (.cells #[.int .i64 l.step, .int .i64 l.count, .int .i64 l.prev, .int .i64 l.pub, .string (str l.head), .string (str l.body)] 110)).alloc (.cells #[.int .i64 0, .int .i64 0, .int .i64 0, .int .i64 0, .int .i64 0, .int .i64 0, .int .i64 0, .string ⟨#[]⟩, .string ⟨#[]⟩, .string ⟨#[]⟩, .int .i64 0, .int .i64 0, .slice none 0 0] 90)) = wb at hB hL hR hW hlt ⊢
  have HB := hid hB
  have HL := hid hL
  have HR := hid hR
  have HW : Hid (Below w.heap.size w wb) := hW
  have cd := talkKeyOf_any s aa nn cc l draw (With A w.heap.size (w.heap.size + 1 + 1 + 1)) wb h255 hls hc hpv hl hin hroot hs hp hd (hv.next hW) (ho.with hv _) (fun g hg => by rcases hg with hg | hg; (have := HA.out g hg; omega); omega)
  have cE : Calls Tryz.prog 119 #[.agg #[.int .i64 s.role, .int .i64 s.step, .int .i64 s.sent, .int .i64 s.got, .int .i64 s.prev, .int .i64 s.skip, .int .i64 s.cap, .string (str s.root), .string (str s.out), .string (str s.inn), .int .i64 s.secret, .int .i64 s.peer, .slice aa nn cc], .agg #[.int .i64 l.step, .int .i64 l.count, .int .i64 l.prev, .int .i64 l.pub, .string (str l.head), .string (str l.body)], .int .i64 draw] wb fun e w' => e = .returned (.tuple #[.string ⟨#[]⟩, .agg #[.int .i64 0, .int .i64 0, .int .i64 0, .int .i64 0, .int .i64 0, .int .i64 0, .int .i64 0, .string ⟨#[]⟩, .string ⟨#[]⟩, .string ⟨#[]⟩, .int .i64 0, .int .i64 0, .slice none 0 0], .int .i64 (keyR s l draw).1]) ∧ Below wb.heap.size wb w' := by
    refine cd.mono ?_
    rintro e w' ⟨q, hw⟩
    rcases q with ⟨_, q⟩ | ⟨q, _⟩
    · exact ⟨q, hw⟩
    · exact absurd q hx
  have i1 : ((keyR s l draw).1 == 0) = false := by rw [beq_eq_false_iff_ne]; exact hx
  clear cd hx hky
  obtain ⟨er, her⟩ : ∃ er, er = (keyR s l draw).1 := ⟨_, rfl⟩
  rw [← her] at cE i1
  have HER : Hid (er = (keyR s l draw).1) := her
  clear her
  obtain ⟨k0, k1, k2, k3, k4, k5, k6, k7, k8, k9, k10, k11, k12⟩ := cells13 hB
  obtain ⟨q0, q1, q2, q3, q4, q5⟩ := cells6 hL
  clear hB hL hR hW hv ho hA
  go_upto_region 3 with (first | (go_at_call 119; go_loud (with_reducible refine cE.mono ?_); rintro e w2 ⟨rfl, hb2⟩))
  have hR2 := (hb2.block (w.heap.size + 1 + 1) (by omega)).trans HR.out
  have HW2 : Hid (Below w.heap.size w w2) := below_tr HW.out hb2
  have hsz2 := hb2.size
  obtain ⟨a0, a1, a2, a3, a4, a5, a6, a7, a8, a9, a10, a11, a12⟩ := cells13 hR2
  have fA : ∀ j, w2.frozen? ⟨w.heap.size + 1 + 1, j, none⟩ = false := fun j => frozen_of_row w2 _ j _ _ hR2
  have hlt2 : w.heap.size + 1 + 1 < w2.heap.size := by omega
  clear hR2 hb2 cE k0 k1 k2 k3 k4 k5 k6 k7 k8 k9 k10 k11 k12 q0 q1 q2 q3 q4 q5
  go_wp2
  (try simp only [Exit.inBlock, Exit.then])
  refine bodyPost_ret (v := .tuple #[.string ⟨#[]⟩, .agg #[.int .i64 0, .int .i64 0, .int .i64 0, .int .i64 0, .int .i64 0, .int .i64 0, .int .i64 0, .string ⟨#[]⟩, .string ⟨#[]⟩, .string ⟨#[]⟩, .int .i64 0, .int .i64 0, .slice none 0 0], .int .i64 er]) ?_ ?_ ?_
  · rw [results_tct (fn := Tryz.f72) rfl]; simp [go_sem, hlt2, a0, a1, a2, a3, a4, a5, a6, a7, a8, a9, a10, a11, a12]
  · rfl
  · refine ⟨by rw [HQ.out]; exact .inl ⟨HX.out, by rw [HER.out]⟩, ?_⟩
    have hw := HW2.out
    repeat (first | (with_reducible refine Below.setCell ?_ (by show w.heap.size ≤ w.heap.size + 1 + 1; omega) _) | (with_reducible refine Below.alloc ?_ (by simp; omega) _))
    exact hw

set_option maxRecDepth 100000 in
set_option maxHeartbeats 1000000 in
theorem recv_no (s : StM) (aa : Option Addr) (nn cc : Nat) (l : LetM) (draw : Nat) (A : Nat → Prop) (w : World) (h255 : s.step ≤ 255) (hls : l.step ≤ 254) (hc : l.count ≤ 254) (hpv : l.prev ≤ 150) (hl : s.kept.length ≤ 100) (hin : s.inn.length = 8) (hroot : s.root.length = 8) (hs : s.secret < 2147483647) (hp : l.pub < 2147483647) (hd : draw < 2147483647) (hv : EntsAt w (.slice aa nn cc) s.kept) (ho : Off A (.slice aa nn cc)) (hA : ∀ g, A g → g < w.heap.size) (hky : (keyR s l draw).1 = 0 → (keyR s l draw).2.1.length = 8 ∧ (keyR s l draw).2.2.cap ≤ 30 ∧ (keyR s l draw).2.2.kept.length ≤ 255) (hhd : l.head.length ≤ 1000) (hb8 : 8 ≤ l.body.length) (hbd : l.body.length ≤ 1000) (hx : (keyR s l draw).1 = 0) (hop : ¬ opensL (keyR s l draw).2.1 l.head l.body) :
    Calls Tryz.prog 72 #[.agg #[.int .i64 s.role, .int .i64 s.step, .int .i64 s.sent, .int .i64 s.got, .int .i64 s.prev, .int .i64 s.skip, .int .i64 s.cap, .string (str s.root), .string (str s.out), .string (str s.inn), .int .i64 s.secret, .int .i64 s.peer, .slice aa nn cc], .agg #[.int .i64 l.step, .int .i64 l.count, .int .i64 l.prev, .int .i64 l.pub, .string (str l.head), .string (str l.body)], .int .i64 draw] w fun e w' => TakeOut (recvR s l draw) A w' e ∧ Below w.heap.size w w' := by
  have HA : Hid (∀ g, A g → g < w.heap.size) := hA
  have HQ : Hid (recvR s l draw = (5, [], s)) := by
    show _ = _
    rw [recvR, if_pos hx, if_neg hop]
  go_enter Tryz.func72, Tryz.ntmps72
  go_upto_region 1 with fail
  obtain ⟨hB, hL, hR, hW, hlt⟩ := alloc3 w (.cells #[.int .i64 s.role, .int .i64 s.step, .int .i64 s.sent, .int .i64 s.got, .int .i64 s.prev, .int .i64 s.skip, .int .i64 s.cap, .string (str s.root), .string (str s.out), .string (str s.inn), .int .i64 s.secret, .int .i64 s.peer, .slice aa nn cc] 90) (.cells #[.int .i64 l.step, .int .i64 l.count, .int .i64 l.prev, .int .i64 l.pub, .string (str l.head), .string (str l.body)] 110) (.cells #[.int .i64 0, .int .i64 0, .int .i64 0, .int .i64 0, .int .i64 0, .int .i64 0, .int .i64 0, .string ⟨#[]⟩, .string ⟨#[]⟩, .string ⟨#[]⟩, .int .i64 0, .int .i64 0, .slice none 0 0] 90)
  generalize (((w.alloc (.cells #[.int .i64 s.role, .int .i64 s.step, .int .i64 s.sent, .int .i64 s.got, .int .i64 s.prev, .int .i64 s.skip, .int .i64 s.cap, .string (str s.root), .string (str s.out), .string (str s.inn), .int .i64 s.secret, .int .i64 s.peer, .slice aa nn cc] 90)).alloc (.cells #[.int .i64 l.step, .int .i64 l.count, .int .i64 l.prev, .int .i64 l.pub, .string (str l.head), .string (str l.body)] 110)).alloc (.cells #[.int .i64 0, .int .i64 0, .int .i64 0, .int .i64 0, .int .i64 0, .int .i64 0, .int .i64 0, .string ⟨#[]⟩, .string ⟨#[]⟩, .string ⟨#[]⟩, .int .i64 0, .int .i64 0, .slice none 0 0] 90)) = wb at hB hL hR hW hlt ⊢
  have HB := hid hB
  have HL := hid hL
  have HR := hid hR
  have HW : Hid (Below w.heap.size w wb) := hW
  have cd := talkKeyOf_any s aa nn cc l draw (With A w.heap.size (w.heap.size + 1 + 1 + 1)) wb h255 hls hc hpv hl hin hroot hs hp hd (hv.next hW) (ho.with hv _) (fun g hg => by rcases hg with hg | hg; (have := HA.out g hg; omega); omega)
  have cO : Calls Tryz.prog 119 #[.agg #[.int .i64 s.role, .int .i64 s.step, .int .i64 s.sent, .int .i64 s.got, .int .i64 s.prev, .int .i64 s.skip, .int .i64 s.cap, .string (str s.root), .string (str s.out), .string (str s.inn), .int .i64 s.secret, .int .i64 s.peer, .slice aa nn cc], .agg #[.int .i64 l.step, .int .i64 l.count, .int .i64 l.prev, .int .i64 l.pub, .string (str l.head), .string (str l.body)], .int .i64 draw] wb fun e w' => (∃ (a : Option Addr) (n c : Nat), e = .returned (.tuple #[.string (str (keyR s l draw).2.1), .agg (stCells (keyR s l draw).2.2 (.slice a n c)), .int .i64 0]) ∧ EntsAt w' (.slice a n c) (keyR s l draw).2.2.kept ∧ Off (With A w.heap.size (w.heap.size + 1 + 1 + 1)) (.slice a n c)) ∧ Below wb.heap.size wb w' := by
    refine cd.mono ?_
    rintro e w' ⟨q, hw⟩
    rcases q with ⟨q, _⟩ | ⟨_, q⟩
    · exact absurd hx q
    · exact ⟨q, hw⟩
  obtain ⟨hk8, hcap, hkl⟩ := hky hx
  have cu := fun w => keysUnseal_no (str (keyR s l draw).2.1) (str l.head) (str l.body) w (by rw [str_size, hk8]; decide) (by rw [str_size]; exact hhd) (by rw [str_size]; exact hb8) (by rw [str_size]; exact hbd) (by rw [str_toList, str_toList, str_toList]; exact hop)
  unfold stCells at cO
  clear cd hx hky hop
  generalize (keyR s l draw) = kr at *
  obtain ⟨k0, ky, q⟩ := kr
  (try dsimp only at cO)
  (try dsimp only at cu)
  (try dsimp only at HQ)
  (try dsimp only at hk8)
  (try dsimp only at hcap)
  (try dsimp only at hkl)
  (try simp only [str_toList, str_size] at cu)
  obtain ⟨sk, hsk⟩ : ∃ x, x = str ky := ⟨_, rfl⟩
  rw [← hsk] at cO cu
  clear hsk hk8
  obtain ⟨k0, k1, k2, k3, k4, k5, k6, k7, k8, k9, k10, k11, k12⟩ := cells13 hB
  obtain ⟨q0, q1, q2, q3, q4, q5⟩ := cells6 hL
  clear hB hL hR hW hv ho hA
  go_upto_region 4 with (first | (go_at_call 119; go_loud (with_reducible refine cO.mono ?_); rintro e w2 ⟨⟨a, n, c, rfl, he2, ho2⟩, hb2⟩))
  have hsz2 := hb2.size
  have hP := heap_alloc_new w2 (.cells #[.int .i64 q.role, .int .i64 q.step, .int .i64 q.sent, .int .i64 q.got, .int .i64 q.prev, .int .i64 q.skip, .int .i64 q.cap, .string (str q.root), .string (str q.out), .string (str q.inn), .int .i64 q.secret, .int .i64 q.peer, .slice a n c] 90)
  have hL2 : (w2.alloc (.cells #[.int .i64 q.role, .int .i64 q.step, .int .i64 q.sent, .int .i64 q.got, .int .i64 q.prev, .int .i64 q.skip, .int .i64 q.cap, .string (str q.root), .string (str q.out), .string (str q.inn), .int .i64 q.secret, .int .i64 q.peer, .slice a n c] 90)).heap[w.heap.size + 1]? = some (.cells #[.int .i64 l.step, .int .i64 l.count, .int .i64 l.prev, .int .i64 l.pub, .string (str l.head), .string (str l.body)] 110) := (Below.heap_alloc _ _ _ (by omega)).trans ((hb2.block (w.heap.size + 1) (by omega)).trans HL.out)
  have hR2 : (w2.alloc (.cells #[.int .i64 q.role, .int .i64 q.step, .int .i64 q.sent, .int .i64 q.got, .int .i64 q.prev, .int .i64 q.skip, .int .i64 q.cap, .string (str q.root), .string (str q.out), .string (str q.inn), .int .i64 q.secret, .int .i64 q.peer, .slice a n c] 90)).heap[w.heap.size + 1 + 1]? = some (.cells #[.int .i64 0, .int .i64 0, .int .i64 0, .int .i64 0, .int .i64 0, .int .i64 0, .int .i64 0, .string ⟨#[]⟩, .string ⟨#[]⟩, .string ⟨#[]⟩, .int .i64 0, .int .i64 0, .slice none 0 0] 90) := (Below.heap_alloc _ _ _ (by omega)).trans ((hb2.block (w.heap.size + 1 + 1) (by omega)).trans HR.out)
  have hE2 : EntsAt (w2.alloc (.cells #[.int .i64 q.role, .int .i64 q.step, .int .i64 q.sent, .int .i64 q.got, .int .i64 q.prev, .int .i64 q.skip, .int .i64 q.cap, .string (str q.root), .string (str q.out), .string (str q.inn), .int .i64 q.secret, .int .i64 q.peer, .slice a n c] 90)) (.slice a n c) q.kept := he2.next ((Below.refl _ _).alloc (Nat.le_refl _) _)
  have hW2 : Below w.heap.size w (w2.alloc (.cells #[.int .i64 q.role, .int .i64 q.step, .int .i64 q.sent, .int .i64 q.got, .int .i64 q.prev, .int .i64 q.skip, .int .i64 q.cap, .string (str q.root), .string (str q.out), .string (str q.inn), .int .i64 q.secret, .int .i64 q.peer, .slice a n c] 90)) := below_tr (below_tr HW.out hb2) ((Below.refl _ _).alloc (Nat.le_refl _) _)
  have hltP : w2.heap.size < (w2.alloc (.cells #[.int .i64 q.role, .int .i64 q.step, .int .i64 q.sent, .int .i64 q.got, .int .i64 q.prev, .int .i64 q.skip, .int .i64 q.cap, .string (str q.root), .string (str q.out), .string (str q.inn), .int .i64 q.secret, .int .i64 q.peer, .slice a n c] 90)).heap.size := by simp
  have hltR : w.heap.size + 1 + 1 < w2.heap.size := by omega
  generalize (w2.alloc (.cells #[.int .i64 q.role, .int .i64 q.step, .int .i64 q.sent, .int .i64 q.got, .int .i64 q.prev, .int .i64 q.skip, .int .i64 q.cap, .string (str q.root), .string (str q.out), .string (str q.inn), .int .i64 q.secret, .int .i64 q.peer, .slice a n c] 90)) = wp at hP hL2 hR2 hE2 hW2 hltP ⊢
  generalize w2.heap.size = PB at hP hltP hltR ⊢
  have HP := hid hP
  have HR2 := hid hR2
  have HE2 : Hid (EntsAt wp (.slice a n c) q.kept) := hE2
  have HW2 : Hid (Below w.heap.size w wp) := hW2
  clear k0 k1 k2 k3 k4 k5 k6 k7 k8 k9 k10 k11 k12 q0 q1 q2 q3 q4 q5
  have q4 : wp.cell? ⟨w.heap.size + 1, 4, none⟩ = some (.string (str l.head)) := cell_of_row wp _ 4 _ _ _ hL2
  have q5 : wp.cell? ⟨w.heap.size + 1, 5, none⟩ = some (.string (str l.body)) := cell_of_row wp _ 5 _ _ _ hL2
  clear hP hL2 hR2 hE2 hW2 he2 ho2 hb2 cO hsz2 HB HL HR HW
  go_upto_region 6 with (first | (go_at_call 93; go_loud (with_reducible refine (cu _).mono ?_); rintro e w3 ⟨rfl, hb3⟩))
  have hsz3 := hb3.size
  have hR3 := (hb3.block (w.heap.size + 1 + 1) (by omega)).trans HR2.out
  have HW3 : Hid (Below w.heap.size w w3) := below_tr HW2.out hb3
  obtain ⟨a0, a1, a2, a3, a4, a5, a6, a7, a8, a9, a10, a11, a12⟩ := cells13 hR3
  have fA : ∀ j, w3.frozen? ⟨w.heap.size + 1 + 1, j, none⟩ = false := fun j => frozen_of_row w3 _ j _ _ hR3
  have hlt2 : w.heap.size + 1 + 1 < w3.heap.size := by omega
  clear hR3 hb3 cu q4 q5 HP HR2 HE2 HW2
  go_wp2
  (try simp only [Exit.inBlock, Exit.then])
  refine bodyPost_ret (v := .tuple #[.string ⟨#[]⟩, .agg #[.int .i64 0, .int .i64 0, .int .i64 0, .int .i64 0, .int .i64 0, .int .i64 0, .int .i64 0, .string ⟨#[]⟩, .string ⟨#[]⟩, .string ⟨#[]⟩, .int .i64 0, .int .i64 0, .slice none 0 0], .int .i64 5]) ?_ ?_ ?_
  · rw [results_tct (fn := Tryz.f72) rfl]; simp [go_sem, a0, a1, a2, a3, a4, a5, a6, a7, a8, a9, a10, a11, a12]
  · rfl
  · refine ⟨by rw [HQ.out]; exact .inl ⟨by simp, rfl⟩, ?_⟩
    repeat (with_reducible refine Below.setCell ?_ (by show w.heap.size ≤ w.heap.size + 1 + 1; omega) _)
    exact HW3.out

set_option maxRecDepth 100000 in
set_option maxHeartbeats 1000000 in
theorem recv_yes (s : StM) (aa : Option Addr) (nn cc : Nat) (l : LetM) (draw : Nat) (A : Nat → Prop) (w : World) (h255 : s.step ≤ 255) (hls : l.step ≤ 254) (hc : l.count ≤ 254) (hpv : l.prev ≤ 150) (hl : s.kept.length ≤ 100) (hin : s.inn.length = 8) (hroot : s.root.length = 8) (hs : s.secret < 2147483647) (hp : l.pub < 2147483647) (hd : draw < 2147483647) (hv : EntsAt w (.slice aa nn cc) s.kept) (ho : Off A (.slice aa nn cc)) (hA : ∀ g, A g → g < w.heap.size) (hky : (keyR s l draw).1 = 0 → (keyR s l draw).2.1.length = 8 ∧ (keyR s l draw).2.2.cap ≤ 30 ∧ (keyR s l draw).2.2.kept.length ≤ 255) (hhd : l.head.length ≤ 1000) (hb8 : 8 ≤ l.body.length) (hbd : l.body.length ≤ 1000) (hx : (keyR s l draw).1 = 0) (hop : opensL (keyR s l draw).2.1 l.head l.body) :
    Calls Tryz.prog 72 #[.agg #[.int .i64 s.role, .int .i64 s.step, .int .i64 s.sent, .int .i64 s.got, .int .i64 s.prev, .int .i64 s.skip, .int .i64 s.cap, .string (str s.root), .string (str s.out), .string (str s.inn), .int .i64 s.secret, .int .i64 s.peer, .slice aa nn cc], .agg #[.int .i64 l.step, .int .i64 l.count, .int .i64 l.prev, .int .i64 l.pub, .string (str l.head), .string (str l.body)], .int .i64 draw] w fun e w' => TakeOut (recvR s l draw) A w' e ∧ Below w.heap.size w w' := by
  have HA : Hid (∀ g, A g → g < w.heap.size) := hA
  have HQ : Hid (recvR s l draw = (0, veil (keyR s l draw).2.1 (l.body.take (l.body.length - 8)), capS (keyR s l draw).2.2)) := by
    show _ = _
    rw [recvR, if_pos hx, if_pos hop]
  go_enter Tryz.func72, Tryz.ntmps72
  go_upto_region 1 with fail
  obtain ⟨hB, hL, hR, hW, hlt⟩ := alloc3 w (.cells #[.int .i64 s.role, .int .i64 s.step, .int .i64 s.sent, .int .i64 s.got, .int .i64 s.prev, .int .i64 s.skip, .int .i64 s.cap, .string (str s.root), .string (str s.out), .string (str s.inn), .int .i64 s.secret, .int .i64 s.peer, .slice aa nn cc] 90) (.cells #[.int .i64 l.step, .int .i64 l.count, .int .i64 l.prev, .int .i64 l.pub, .string (str l.head), .string (str l.body)] 110) (.cells #[.int .i64 0, .int .i64 0, .int .i64 0, .int .i64 0, .int .i64 0, .int .i64 0, .int .i64 0, .string ⟨#[]⟩, .string ⟨#[]⟩, .string ⟨#[]⟩, .int .i64 0, .int .i64 0, .slice none 0 0] 90)
  generalize (((w.alloc (.cells #[.int .i64 s.role, .int .i64 s.step, .int .i64 s.sent, .int .i64 s.got, .int .i64 s.prev, .int .i64 s.skip, .int .i64 s.cap, .string (str s.root), .string (str s.out), .string (str s.inn), .int .i64 s.secret, .int .i64 s.peer, .slice aa nn cc] 90)).alloc (.cells #[.int .i64 l.step, .int .i64 l.count, .int .i64 l.prev, .int .i64 l.pub, .string (str l.head), .string (str l.body)] 110)).alloc (.cells #[.int .i64 0, .int .i64 0, .int .i64 0, .int .i64 0, .int .i64 0, .int .i64 0, .int .i64 0, .string ⟨#[]⟩, .string ⟨#[]⟩, .string ⟨#[]⟩, .int .i64 0, .int .i64 0, .slice none 0 0] 90)) = wb at hB hL hR hW hlt ⊢
  have HB := hid hB
  have HL := hid hL
  have HR := hid hR
  have HW : Hid (Below w.heap.size w wb) := hW
  have cd := talkKeyOf_any s aa nn cc l draw (With A w.heap.size (w.heap.size + 1 + 1 + 1)) wb h255 hls hc hpv hl hin hroot hs hp hd (hv.next hW) (ho.with hv _) (fun g hg => by rcases hg with hg | hg; (have := HA.out g hg; omega); omega)
  have cO : Calls Tryz.prog 119 #[.agg #[.int .i64 s.role, .int .i64 s.step, .int .i64 s.sent, .int .i64 s.got, .int .i64 s.prev, .int .i64 s.skip, .int .i64 s.cap, .string (str s.root), .string (str s.out), .string (str s.inn), .int .i64 s.secret, .int .i64 s.peer, .slice aa nn cc], .agg #[.int .i64 l.step, .int .i64 l.count, .int .i64 l.prev, .int .i64 l.pub, .string (str l.head), .string (str l.body)], .int .i64 draw] wb fun e w' => (∃ (a : Option Addr) (n c : Nat), e = .returned (.tuple #[.string (str (keyR s l draw).2.1), .agg (stCells (keyR s l draw).2.2 (.slice a n c)), .int .i64 0]) ∧ EntsAt w' (.slice a n c) (keyR s l draw).2.2.kept ∧ Off (With A w.heap.size (w.heap.size + 1 + 1 + 1)) (.slice a n c)) ∧ Below wb.heap.size wb w' := by
    refine cd.mono ?_
    rintro e w' ⟨q, hw⟩
    rcases q with ⟨q, _⟩ | ⟨_, q⟩
    · exact absurd hx q
    · exact ⟨q, hw⟩
  obtain ⟨hk8, hcap, hkl⟩ := hky hx
  have cu := fun w => keysUnseal_yes (str (keyR s l draw).2.1) (str l.head) (str l.body) w (by rw [str_size, hk8]; decide) (by rw [str_size]; exact hhd) (by rw [str_size]; exact hb8) (by rw [str_size]; exact hbd) (by rw [str_toList, str_toList, str_toList]; exact hop)
  unfold stCells at cO
  clear cd hx hky hop
  generalize (keyR s l draw) = kr at *
  obtain ⟨k0, ky, q⟩ := kr
  (try dsimp only at cO)
  (try dsimp only at cu)
  (try dsimp only at HQ)
  (try dsimp only at hk8)
  (try dsimp only at hcap)
  (try dsimp only at hkl)
  (try simp only [str_toList, str_size] at cu)
  obtain ⟨sk, hsk⟩ : ∃ x, x = str ky := ⟨_, rfl⟩
  rw [← hsk] at cO cu
  clear hsk hk8
  obtain ⟨k0, k1, k2, k3, k4, k5, k6, k7, k8, k9, k10, k11, k12⟩ := cells13 hB
  obtain ⟨q0, q1, q2, q3, q4, q5⟩ := cells6 hL
  clear hB hL hR hW hv ho hA
  go_upto_region 4 with (first | (go_at_call 119; go_loud (with_reducible refine cO.mono ?_); rintro e w2 ⟨⟨a, n, c, rfl, he2, ho2⟩, hb2⟩))
  have hsz2 := hb2.size
  have hP := heap_alloc_new w2 (.cells #[.int .i64 q.role, .int .i64 q.step, .int .i64 q.sent, .int .i64 q.got, .int .i64 q.prev, .int .i64 q.skip, .int .i64 q.cap, .string (str q.root), .string (str q.out), .string (str q.inn), .int .i64 q.secret, .int .i64 q.peer, .slice a n c] 90)
  have hL2 : (w2.alloc (.cells #[.int .i64 q.role, .int .i64 q.step, .int .i64 q.sent, .int .i64 q.got, .int .i64 q.prev, .int .i64 q.skip, .int .i64 q.cap, .string (str q.root), .string (str q.out), .string (str q.inn), .int .i64 q.secret, .int .i64 q.peer, .slice a n c] 90)).heap[w.heap.size + 1]? = some (.cells #[.int .i64 l.step, .int .i64 l.count, .int .i64 l.prev, .int .i64 l.pub, .string (str l.head), .string (str l.body)] 110) := (Below.heap_alloc _ _ _ (by omega)).trans ((hb2.block (w.heap.size + 1) (by omega)).trans HL.out)
  have hR2 : (w2.alloc (.cells #[.int .i64 q.role, .int .i64 q.step, .int .i64 q.sent, .int .i64 q.got, .int .i64 q.prev, .int .i64 q.skip, .int .i64 q.cap, .string (str q.root), .string (str q.out), .string (str q.inn), .int .i64 q.secret, .int .i64 q.peer, .slice a n c] 90)).heap[w.heap.size + 1 + 1]? = some (.cells #[.int .i64 0, .int .i64 0, .int .i64 0, .int .i64 0, .int .i64 0, .int .i64 0, .int .i64 0, .string ⟨#[]⟩, .string ⟨#[]⟩, .string ⟨#[]⟩, .int .i64 0, .int .i64 0, .slice none 0 0] 90) := (Below.heap_alloc _ _ _ (by omega)).trans ((hb2.block (w.heap.size + 1 + 1) (by omega)).trans HR.out)
  have hE2 : EntsAt (w2.alloc (.cells #[.int .i64 q.role, .int .i64 q.step, .int .i64 q.sent, .int .i64 q.got, .int .i64 q.prev, .int .i64 q.skip, .int .i64 q.cap, .string (str q.root), .string (str q.out), .string (str q.inn), .int .i64 q.secret, .int .i64 q.peer, .slice a n c] 90)) (.slice a n c) q.kept := he2.next ((Below.refl _ _).alloc (Nat.le_refl _) _)
  have hW2 : Below w.heap.size w (w2.alloc (.cells #[.int .i64 q.role, .int .i64 q.step, .int .i64 q.sent, .int .i64 q.got, .int .i64 q.prev, .int .i64 q.skip, .int .i64 q.cap, .string (str q.root), .string (str q.out), .string (str q.inn), .int .i64 q.secret, .int .i64 q.peer, .slice a n c] 90)) := below_tr (below_tr HW.out hb2) ((Below.refl _ _).alloc (Nat.le_refl _) _)
  have hltP : w2.heap.size < (w2.alloc (.cells #[.int .i64 q.role, .int .i64 q.step, .int .i64 q.sent, .int .i64 q.got, .int .i64 q.prev, .int .i64 q.skip, .int .i64 q.cap, .string (str q.root), .string (str q.out), .string (str q.inn), .int .i64 q.secret, .int .i64 q.peer, .slice a n c] 90)).heap.size := by simp
  have hltR : w.heap.size + 1 + 1 < w2.heap.size := by omega
  generalize (w2.alloc (.cells #[.int .i64 q.role, .int .i64 q.step, .int .i64 q.sent, .int .i64 q.got, .int .i64 q.prev, .int .i64 q.skip, .int .i64 q.cap, .string (str q.root), .string (str q.out), .string (str q.inn), .int .i64 q.secret, .int .i64 q.peer, .slice a n c] 90)) = wp at hP hL2 hR2 hE2 hW2 hltP ⊢
  generalize w2.heap.size = PB at hP hltP hltR ⊢
  have HP := hid hP
  have HR2 := hid hR2
  have HE2 : Hid (EntsAt wp (.slice a n c) q.kept) := hE2
  have HW2 : Hid (Below w.heap.size w wp) := hW2
  clear k0 k1 k2 k3 k4 k5 k6 k7 k8 k9 k10 k11 k12 q0 q1 q2 q3 q4 q5
  have q4 : wp.cell? ⟨w.heap.size + 1, 4, none⟩ = some (.string (str l.head)) := cell_of_row wp _ 4 _ _ _ hL2
  have q5 : wp.cell? ⟨w.heap.size + 1, 5, none⟩ = some (.string (str l.body)) := cell_of_row wp _ 5 _ _ _ hL2
  clear hP hL2 hR2 hE2 hW2 he2 ho2 hb2 cO hsz2 HB HL HR HW
  obtain ⟨tx, htx⟩ : ∃ x, x = str (veil ky (l.body.take (l.body.length - 8))) := ⟨_, rfl⟩
  rw [← htx] at cu
  have HTX : Hid (tx = str (veil ky (l.body.take (l.body.length - 8)))) := htx
  have HC : Hid (∀ v, stCells (capS q) v = stCells q v) := fun _ => rfl
  have HCK : Hid ((capS q).kept = q.kept.drop (q.kept.length - q.cap)) := rfl
  clear htx
  go_upto_region 7 with (first | (go_at_call 93; go_loud (with_reducible refine (cu _).mono ?_); rintro e w3 ⟨rfl, hb3⟩))
  have hsz3 := hb3.size
  have hP3 := (hb3.block PB hltP).trans HP.out
  have hR3 := (hb3.block (w.heap.size + 1 + 1) (by omega)).trans HR2.out
  have HE3 : Hid (EntsAt w3 (.slice a n c) q.kept) := HE2.out.next hb3
  have HW3 : Hid (Below w.heap.size w w3) := below_tr HW2.out hb3
  have HP3 := hid hP3
  have HR3 := hid hR3
  have y6 : w3.cell? ⟨PB, 6, none⟩ = some (.int .i64 q.cap) := cell_of_row w3 _ 6 _ _ _ hP3
  have y12 : w3.cell? ⟨PB, 12, none⟩ = some (.slice a n c) := cell_of_row w3 _ 12 _ _ _ hP3
  have hlt3 : PB < w3.heap.size := by omega
  have cg := fun w hv => greatest_any q.kept (.slice a n c) q.cap w hv (by omega) (by omega)
  clear hP3 hR3 hb3 cu q4 q5 HP HR2 HE2 HW2 hsz3 hltP
  generalize q.kept.drop (q.kept.length - q.cap) = fl at *

  go_upto_region 8 with (first | (go_at_call 120; go_loud (with_reducible refine (cg _ HE3.out).mono ?_); rintro e w4 ⟨⟨v4, rfl, hown⟩, hb4⟩; obtain ⟨xa, xn, xc, hvv⟩ := ownsK_form hown; subst hvv; have hP4 := (hb4.block PB (by omega)).trans HP3.out; have hR4 := (hb4.block (w.heap.size + 1 + 1) (by omega)).trans HR3.out; have z12 : w4.cell? ⟨PB, 12, none⟩ = some (.slice a n c) := cell_of_row w4 _ 12 _ _ _ hP4; have fB : ∀ j, w4.frozen? ⟨PB, j, none⟩ = false := fun j => frozen_of_row w4 _ j _ _ hP4; have HP4 := hid hP4; have HR4 := hid hR4; have HW4 : Hid (Below w.heap.size w w4) := below_tr HW3.out hb4; have HOW : Hid (w4.ownsRow w3.heap.size 154 3 (.slice xa xn xc) fl.length (entsCells fl)) := hown; clear hP4 hR4 hb4 hown))
  have hX : (w4.setCell ⟨PB, 12, none⟩ (.slice xa xn xc)).heap[PB]? = some (.cells #[.int .i64 q.role, .int .i64 q.step, .int .i64 q.sent, .int .i64 q.got, .int .i64 q.prev, .int .i64 q.skip, .int .i64 q.cap, .string (str q.root), .string (str q.out), .string (str q.inn), .int .i64 q.secret, .int .i64 q.peer, .slice xa xn xc] 90) := heap_setCell_same _ _ _ _ _ _ HP4.out
  have hY : (w4.setCell ⟨PB, 12, none⟩ (.slice xa xn xc)).heap[w.heap.size + 1 + 1]? = some (.cells #[.int .i64 0, .int .i64 0, .int .i64 0, .int .i64 0, .int .i64 0, .int .i64 0, .int .i64 0, .string ⟨#[]⟩, .string ⟨#[]⟩, .string ⟨#[]⟩, .int .i64 0, .int .i64 0, .slice none 0 0] 90) := (heap_setCell_other _ _ _ _ (by show w.heap.size + 1 + 1 ≠ PB; omega)).trans HR4.out
  have hO : (w4.setCell ⟨PB, 12, none⟩ (.slice xa xn xc)).ownsRow w3.heap.size 154 3 (.slice xa xn xc) fl.length (entsCells fl) := ownsRow_setCell_below HOW.out (by show PB < _; omega) _
  have hZ : Below w.heap.size w (w4.setCell ⟨PB, 12, none⟩ (.slice xa xn xc)) := HW4.out.setCell (by show w.heap.size ≤ PB; omega) _
  generalize (w4.setCell ⟨PB, 12, none⟩ (.slice xa xn xc)) = wz at hX hY hO hZ ⊢
  obtain ⟨u0, u1, u2, u3, u4, u5, u6, u7, u8, u9, u10, u11, u12⟩ := cells13 hX
  obtain ⟨a0, a1, a2, a3, a4, a5, a6, a7, a8, a9, a10, a11, a12⟩ := cells13 hY
  have fA : ∀ j, wz.frozen? ⟨w.heap.size + 1 + 1, j, none⟩ = false := fun j => frozen_of_row wz _ j _ _ hY
  have HZ : Hid (Below w.heap.size w wz) := hZ
  have HOZ : Hid (wz.ownsRow w3.heap.size 154 3 (.slice xa xn xc) fl.length (entsCells fl)) := hO
  have hw3 : w.heap.size ≤ w3.heap.size := by omega
  clear hX hY hO hZ HP4 HR4 HW4 HOW z12 fB cg y6 y12 HP3 HR3 HE3 HW3
  go_region
  all_goals go_wp2
  all_goals (try simp only [Exit.inBlock, Exit.then])
  all_goals (refine bodyPost_ret (v := .tuple #[.string tx, .agg #[.int .i64 q.role, .int .i64 q.step, .int .i64 q.sent, .int .i64 q.got, .int .i64 q.prev, .int .i64 q.skip, .int .i64 q.cap, .string (str q.root), .string (str q.out), .string (str q.inn), .int .i64 q.secret, .int .i64 q.peer, .slice xa xn xc], .int .i64 0]) ?_ ?_ ?_)
  all_goals first
    | rfl
    | (rw [results_tct (fn := Tryz.f72) rfl]; simp [go_sem, a0, a1, a2, a3, a4, a5, a6, a7, a8, a9, a10, a11, a12])
    | (refine ⟨?_, ?_⟩
       · rw [HQ.out]
         refine .inr ⟨rfl, xa, xn, xc, by rw [HC.out, HTX.out]; rfl, ?_, Off.own HOZ.out (fun g hg => by have := HA.out g hg; omega)⟩
         show EntsAt _ _ (capS q).kept
         rw [HCK.out]
         refine EntsAt.of_own (base := w3.heap.size) (e := 154) ?_
         repeat (first | (with_reducible refine ownsRow_setCell_below ?_ (by show w.heap.size + 1 + 1 < w3.heap.size; omega) _) | (with_reducible refine ownsRow_drew ?_))
         exact HOZ.out
       · repeat (first | (with_reducible refine Below.setCell ?_ (by show w.heap.size ≤ w.heap.size + 1 + 1; omega) _) | (with_reducible refine Below.drew ?_))
         exact HZ.out)
theorem talkReceive_any (s : StM) (aa : Option Addr) (nn cc : Nat) (l : LetM) (draw : Nat) (A : Nat → Prop) (w : World) (h255 : s.step ≤ 255) (hls : l.step ≤ 254) (hc : l.count ≤ 254) (hpv : l.prev ≤ 150) (hl : s.kept.length ≤ 100) (hin : s.inn.length = 8) (hroot : s.root.length = 8) (hs : s.secret < 2147483647) (hp : l.pub < 2147483647) (hd : draw < 2147483647) (hv : EntsAt w (.slice aa nn cc) s.kept) (ho : Off A (.slice aa nn cc)) (hA : ∀ g, A g → g < w.heap.size) (hky : (keyR s l draw).1 = 0 → (keyR s l draw).2.1.length = 8 ∧ (keyR s l draw).2.2.cap ≤ 30 ∧ (keyR s l draw).2.2.kept.length ≤ 255) (hhd : l.head.length ≤ 1000) (hb8 : 8 ≤ l.body.length) (hbd : l.body.length ≤ 1000) :
    Calls Tryz.prog 72 #[.agg #[.int .i64 s.role, .int .i64 s.step, .int .i64 s.sent, .int .i64 s.got, .int .i64 s.prev, .int .i64 s.skip, .int .i64 s.cap, .string (str s.root), .string (str s.out), .string (str s.inn), .int .i64 s.secret, .int .i64 s.peer, .slice aa nn cc], .agg #[.int .i64 l.step, .int .i64 l.count, .int .i64 l.prev, .int .i64 l.pub, .string (str l.head), .string (str l.body)], .int .i64 draw] w fun e w' => TakeOut (recvR s l draw) A w' e ∧ Below w.heap.size w w' := by
  by_cases hx : (keyR s l draw).1 = 0
  · by_cases hop : opensL (keyR s l draw).2.1 l.head l.body
    · exact recv_yes s aa nn cc l draw A w h255 hls hc hpv hl hin hroot hs hp hd hv ho hA hky hhd hb8 hbd hx hop
    · exact recv_no s aa nn cc l draw A w h255 hls hc hpv hl hin hroot hs hp hd hv ho hA hky hhd hb8 hbd hx hop
  · exact recv_err s aa nn cc l draw A w h255 hls hc hpv hl hin hroot hs hp hd hv ho hA hky hhd hb8 hbd hx
end Go.Proofs.YtabpkohcimiceabGreat
